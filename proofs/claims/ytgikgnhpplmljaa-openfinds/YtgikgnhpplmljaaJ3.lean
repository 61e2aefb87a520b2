import Derived.Deep.OwnRows
import Derived.Lib.SmallJoins
import Derived.ChangeShapes
import Derived.Carry
import Derived.Test.YtgikgnhpplmljaaProg
import Derived.Test.YtgikgnhpplmljaaJ1
import Derived.Test.YtgikgnhpplmljaaJ2
section
/- What the definition's own Trim and Eval (package shamrockref01) do: a polynomial without noughts at its end, in memory of its own; its value. -/
namespace Go.Proofs.Ytgikgnhpplmljaa
open Go.RowKit Go.Shelf Gw Pol

set_option maxRecDepth 100000 in
set_option maxHeartbeats 1000000 in
theorem trim_any (A : Option Addr) (c : Nat) (l : List Nat) (w : World) (B : Nat) (hI : In w B A c l) (hB : B ≤ w.heap.size) (hcm : l.length ≤ 140737488355328) :
    Calls Try.prog 67 #[.slice A l.length c] w fun e w' => ∃ A' c', e = .returned (.slice A' (tr l).length c') ∧ Gw.Own w' w.heap.size 5 A' c' (tr l) ∧ Below w.heap.size w w' := by
  obtain ⟨hS, hc, hnil⟩ := hI
  obtain ⟨i0, hi0, hz0, hz1, hz2⟩ := info_parts byte_info
  go_enter Try.func67, Try.ntmps67
  go_wp2
  go_loop [3] (fun i => ∃ n : Nat, n ≤ l.length ∧ i = .int .i64 (n : Int) ∧ Dg l n) (fun i => (intOf i).toNat)
  case atStart => exact ⟨l.length, Nat.le_refl _, rfl, Dg.len (Nat.le_refl _)⟩
  case round =>
    obtain ⟨n, hn, rfl, hd⟩ := hrel
    by_cases hout : n = 0 ∨ co l (n - 1) ≠ 0
    · have hfin := Lib.hid (tr_take l n hn hd hout)
      have hlen : (l.take n).length = n := by simp; omega
      have HL := Lib.hid hlen
      clear hlen
      by_cases h0 : n = 0
      · subst h0
        clear hout
        go_wp2_with (at_builtin; refine wpList_app rfl (.tmp 18) (.tmp 21) 36 rfl w.heap.size 5 i0 _ Try.underlying36 hi0 hz0 hz1 hz2 rfl (some ⟨w.heap.size, 0, none⟩) 0 0 [] rfl rfl (Own.lit0 w w.heap.size 5 (Nat.le_refl _)) B A 0 c [] rfl rfl hnil Sl.nil (by simp) (by simp) ?_; intro A2 c2 w2 hown hgr)
        go_ret
        refine ⟨A2, c2, ?_, ?_, ?_⟩
        · rw [hfin.out]; rfl
        · rw [hfin.out]; exact hown
        · exact ((Below.refl _ w).alloc (Nat.le_refl _) _).grown hgr (by simp) (fun k hk => by simp [Value.ownBlock] at hk; omega)
      · obtain ⟨x, b, off, hx, hxb, rfl, hb, hcell⟩ := hS.at_ (k := n - 1) (by omega)
        have ecast : (n : Int) - 1 = ((n - 1 : Nat) : Int) := by omega
        have hx0 : x ≠ 0 := by
          rcases hout with h | h
          · exact absurd h h0
          · simpa [co, hx] using h
        have hxz : ((x : Int) == 0) = false := beq_eq_false_iff_ne.2 (by omega)
        clear hout hx hx0
        go_wp2_with (at_builtin; refine wpList_app rfl (.tmp 18) (.tmp 21) 36 rfl w.heap.size 5 i0 _ Try.underlying36 hi0 hz0 hz1 hz2 rfl (some ⟨w.heap.size, 0, none⟩) 0 0 [] rfl rfl (Own.lit0 w w.heap.size 5 (Nat.le_refl _)) B (some ⟨b, off, none⟩) n c (l.take n) rfl HL.out.symm hnil ((hS.take n).alloc hB _) (by rw [HL.out]; simp; omega) (by simp) ?_; intro A2 c2 w2 hown hgr)
        go_ret
        refine ⟨A2, c2, ?_, ?_, ?_⟩
        · rw [hfin.out, HL.out]; rfl
        · rw [hfin.out]; exact hown
        · exact ((Below.refl _ w).alloc (Nat.le_refl _) _).grown hgr (by simp) (fun k hk => by simp [Value.ownBlock] at hk; omega)
    · have h0 : n ≠ 0 := fun h => hout (.inl h)
      obtain ⟨x, b, off, hx, hxb, rfl, hb, hcell⟩ := hS.at_ (k := n - 1) (by omega)
      have ecast : (n : Int) - 1 = ((n - 1 : Nat) : Int) := by omega
      have hx0 : x = 0 := Decidable.byContradiction fun h => hout (.inr (by simpa [co, hx] using h))
      subst hx0
      clear hout
      have HX := Lib.hid hx
      clear hx
      go_wp2
      go_round
      case rel => exact ⟨n - 1, by omega, rfl, fun i hi => by
        by_cases e : i = n - 1
        · subst e; simp [co, HX.out]
        · exact hd i (by omega)⟩
      case measure => simp [intOf]; omega

theorem ev_snoc {p : List Nat} (hp : BB p) {a x : Nat} (ha : a < 256) (hx : x < 256) : ev x (p ++ [a]) = ev x p ^^^ Gf.gm a (Gf.gp x p.length) := by
  induction p with
  | nil => simp [ev, Gf.gp, Gf.gm_zero_right, Gf.gm_one ha]
  | cons b p ih =>
    show b ^^^ Gf.gm x (ev x (p ++ [a])) = (b ^^^ Gf.gm x (ev x p)) ^^^ Gf.gm a (Gf.gp x (p.length + 1))
    rw [ih hp.tail, Gf.gm_xor_right hx (ev_lt hp.tail x) (Gf.gm_lt _ _), Nat.xor_assoc]
    congr 2
    show Gf.gm x (Gf.gm a (Gf.gp x p.length)) = Gf.gm a (Gf.gm (Gf.gp x p.length) x)
    rw [← Gf.gm_assoc hx ha (Gf.gp_lt _ _), Gf.gm_comm x a, Gf.gm_assoc ha hx (Gf.gp_lt _ _), Gf.gm_comm x]
theorem ev_take_succ {l : List Nat} (hl : BB l) {k y x : Nat} (hk : l[k]? = some y) (hx : x < 256) : ev x (l.take (k + 1)) = ev x (l.take k) ^^^ Gf.gm y (Gf.gp x k) := by
  have hlt : k < l.length := (List.getElem?_eq_some_iff.1 hk).1
  have e : l.take (k + 1) = l.take k ++ [y] := by rw [List.take_add_one, hk]; rfl
  rw [e, ev_snoc (hl.take k) (hl y (List.mem_of_getElem? hk)) hx, List.length_take, Nat.min_eq_left (by omega)]
set_option maxRecDepth 100000 in
set_option maxHeartbeats 1000000 in
theorem reval_any (A : Option Addr) (c : Nat) (l : List Nat) (x : Nat) (hx : x < 256) (w : World) (B : Nat) (hI : In w B A c l) (hcm : l.length ≤ 140737488355328) :
    Calls Try.prog 43 #[.slice A l.length c, .int .u8 (x : Int)] w fun e w' => e = .returned (.int .u8 (ev x l : Int)) ∧ w = w' := by
  obtain ⟨hS, hc, hnil⟩ := hI
  go_enter Try.func43, Try.ntmps43
  go_wp2
  go_loop [5, 6, 7] (fun s p i => ∃ k : Nat, k ≤ l.length ∧ i = .int .i64 (k : Int) ∧ s = .int .u8 (ev x (l.take k) : Int) ∧ p = .int .u8 (Gf.gp x k : Int)) (fun _ _ i => l.length - (intOf i).toNat)
  case atStart => exact ⟨0, Nat.zero_le _, rfl, rfl, rfl⟩
  case round =>
    obtain ⟨k, hk, rfl, rfl, rfl⟩ := hrel
    by_cases hlt : k < l.length
    · obtain ⟨y, b, off, hy, hyb, rfl, hb, hcell⟩ := hS.at_ hlt
      have e1 := ev_lt (hS.bb.take k) x
      have HV := Lib.hid (ev_take_succ hS.bb hy hx)
      have hxor : bits .xor .u8 (ev x (l.take k) : Int) (Gf.gm y (Gf.gp x k) : Int) = ((ev x (l.take k) ^^^ Gf.gm y (Gf.gp x k) : Nat) : Int) := u8_xor_nat _ _ e1 (Gf.gm_lt _ _)
      clear hy e1
      go_wp2_with fail
      refine (rmul_any y (Gf.gp x k) hyb (Gf.gp_lt _ _) _).mono ?_
      rintro e w' ⟨rfl, rfl⟩
      go_wp2_with fail
      refine (rmul_any (Gf.gp x k) x (Gf.gp_lt _ _) hx _).mono ?_
      rintro e w' ⟨rfl, rfl⟩
      go_wp2
      go_round
      case rel => exact ⟨k + 1, by omega, by go_num, by rw [HV.out], rfl⟩
      case measure => simp [intOf]; omega
    · obtain rfl : k = l.length := by omega
      have HV := Lib.hid (List.take_length (l := l))
      go_wp2
      go_ret
      exact ⟨by rw [← HV.out]; simp, rfl⟩
end Go.Proofs.Ytgikgnhpplmljaa
end
section
/- What the definition's own Add (package shamrockref01) does: the sum, without noughts at its end, in memory of its own. -/
namespace Go.Proofs.Ytgikgnhpplmljaa
open Go.RowKit Go.Shelf Gw Pol

theorem add_get (p q : List Nat) (k : Nat) (h : k < p.length ∨ k < q.length) : (add p q)[k]? = some (co p k ^^^ co q k) := by
  have hl : k < (add p q).length := by rw [add_len]; omega
  rw [List.getElem?_eq_getElem hl, ← co_get hl, co_add]
theorem co_of {l : List Nat} {k x : Nat} (h : l[k]? = some x) : co l k = x := by simp [co, h]

def AddRel (w : World) (p q : List Nat) (v i : Value) (wr : World) : Prop :=
  ∃ (k : Nat) (A : Option Addr) (c : Nat), v = .slice A k c ∧ i = .int .i64 (k : Int) ∧ k ≤ (add p q).length ∧ Gw.Own wr w.heap.size 5 A c ((add p q).take k) ∧ Below w.heap.size w wr

theorem add_step {w wr w2 : World} {p q : List Nat} {k : Nat} {A A2 : Option Addr} {c c2 y : Nat} {o : Obj} (hk : k + 1 ≤ (add p q).length) (hy : (add p q)[k]? = some y)
    (hown : Gw.Own wr w.heap.size 5 A c ((add p q).take k)) (hbel : Below w.heap.size w wr) (hown2 : Gw.Own w2 w.heap.size 5 A2 c2 ((add p q).take k ++ [y]))
    (hgr : (wr.alloc o).grownBy w2 (Value.slice A k c).ownBlock) : AddRel w p q (.slice A2 (k + 1) c2) (.int .i64 ((k : Int) + 1)) w2 :=
  ⟨k + 1, A2, c2, rfl, rfl, hk, by rw [take_snoc hy] at hown2; exact hown2, below_app hbel hbel.size hown hgr⟩

set_option maxRecDepth 100000 in
set_option maxHeartbeats 1000000 in
theorem radd_any (A A' : Option Addr) (c c' : Nat) (p q : List Nat) (w : World) (hp : In w w.heap.size A c p) (hq : In w w.heap.size A' c' q) (hcm : p.length + q.length ≤ 140737488355328) :
    Calls Try.prog 48 #[.slice A p.length c, .slice A' q.length c'] w fun e w' => ∃ A2 c2, e = .returned (.slice A2 (tr (add p q)).length c2) ∧ Gw.Own w' w.heap.size 5 A2 c2 (tr (add p q)) ∧ Below w.heap.size w w' := by
  obtain ⟨i0, hi0, hz0, hz1, hz2⟩ := info_parts byte_info
  have hlen := add_len p q
  have HLen := Lib.hid hlen
  have hl1 : (add p q).length ≤ p.length + q.length := by omega
  have hl2 : p.length ≤ (add p q).length := by omega
  have hl3 : q.length ≤ (add p q).length := by omega
  clear hlen
  go_enter Try.func48, Try.ntmps48
  go_wp2
  go_loopw [5, 6] (AddRel w p q) (fun _ i _ => (add p q).length - (intOf i).toNat)
  case atStart => exact ⟨0, none, 0, rfl, rfl, Nat.zero_le _, Own.none_ _ _ _, Below.refl _ _⟩
  case round =>
    obtain ⟨k, Ao, co', rfl, rfl, hk, hown, hbel⟩ := hrel
    have hP := (hp.below hbel).sl
    have hQ := (hq.below hbel).sl
    have hbs := hbel.size
    by_cases hkp : k < p.length
    · obtain ⟨x, b, off, hx, hxb, rfl, hb, hcell⟩ := hP.at_ hkp
      have z0 : bits .xor .u8 0 (x : Int) = (x : Int) := by simpa using u8_xor_nat 0 x (by omega) hxb
      by_cases hkq : k < q.length
      · obtain ⟨y, b2, off2, hy, hyb, rfl, hb2, hcell2⟩ := hQ.at_ hkq
        have z1 : bits .xor .u8 (x : Int) (y : Int) = ((x ^^^ y : Nat) : Int) := u8_xor_nat x y hxb hyb
        have HG := Lib.hid (show (add p q)[k]? = some (x ^^^ y) by rw [add_get p q k (.inl hkp), co_of hx, co_of hy])
        clear hx hy hP hQ
        go_wp2_with (at_builtin; refine wpList_app rfl (.tmp 40) (.tmp 42) 36 rfl w.heap.size 5 i0 _ Try.underlying36 hi0 hz0 hz1 hz2 rfl Ao k co' ((add p q).take k) rfl (by simp; omega) (hown.alloc _) _ _ 1 1 [x ^^^ y] rfl rfl (fun h => by cases h) (Sl.one wr 5 _ (Gf.xor_lt hxb hyb)) (by simp; omega) (by simp; omega) ?_; intro A2 c2 w2 hown2 hgr)
        go_roundw
        case rel => exact add_step (by omega) HG.out hown hbel hown2 hgr
        case measure => simp [intOf]; omega
      · have HG := Lib.hid (show (add p q)[k]? = some x by rw [add_get p q k (.inl hkp), co_of hx, co_far (by omega), Nat.xor_zero])
        clear hx hP hQ
        go_wp2_with (at_builtin; refine wpList_app rfl (.tmp 40) (.tmp 42) 36 rfl w.heap.size 5 i0 _ Try.underlying36 hi0 hz0 hz1 hz2 rfl Ao k co' ((add p q).take k) rfl (by simp; omega) (hown.alloc _) _ _ 1 1 [x] rfl rfl (fun h => by cases h) (Sl.one wr 5 _ hxb) (by simp; omega) (by simp; omega) ?_; intro A2 c2 w2 hown2 hgr)
        go_roundw
        case rel => exact add_step (by omega) HG.out hown hbel hown2 hgr
        case measure => simp [intOf]; omega
    · by_cases hkq : k < q.length
      · obtain ⟨y, b2, off2, hy, hyb, rfl, hb2, hcell2⟩ := hQ.at_ hkq
        have z1 : bits .xor .u8 0 (y : Int) = (y : Int) := by simpa using u8_xor_nat 0 y (by omega) hyb
        have HG := Lib.hid (show (add p q)[k]? = some y by rw [add_get p q k (.inr hkq), co_of hy, co_far (by omega), Nat.zero_xor])
        clear hy hP hQ
        go_wp2_with (at_builtin; refine wpList_app rfl (.tmp 40) (.tmp 42) 36 rfl w.heap.size 5 i0 _ Try.underlying36 hi0 hz0 hz1 hz2 rfl Ao k co' ((add p q).take k) rfl (by simp; omega) (hown.alloc _) _ _ 1 1 [y] rfl rfl (fun h => by cases h) (Sl.one wr 5 _ hyb) (by simp; omega) (by simp; omega) ?_; intro A2 c2 w2 hown2 hgr)
        go_roundw
        case rel => exact add_step (by omega) HG.out hown hbel hown2 hgr
        case measure => simp [intOf]; omega
      · obtain rfl : k = (add p q).length := by have := HLen.out; omega
        rw [List.take_length] at hown
        clear hP hQ
        go_wp2_with fail
        refine (trim_any Ao co' (add p q) wr wr.heap.size hown.inn (Nat.le_refl _) (by omega)).mono ?_
        rintro e w' ⟨A2, c2, rfl, hown2, hb2⟩
        go_wp2
        go_ret
        exact ⟨A2, c2, rfl, hown2.base hbs, hbel.trans (hb2.mono hbs)⟩
end Go.Proofs.Ytgikgnhpplmljaa
end
section
/- What the definition's own Times (package shamrockref01) does: the product, without noughts at its end, in memory of its own. -/
namespace Go.Proofs.Ytgikgnhpplmljaa
open Go.RowKit Go.Shelf Gw Pol

/-- What stands at k when i powers of p are through, and j of q in the next one. -/
def tF (p q : List Nat) (i j k : Nat) : Nat := co (mul (p.take i) q) k ^^^ (if i ≤ k ∧ k < i + j then Gf.gm (co p i) (co q (k - i)) else 0)
def tRow (p q : List Nat) (i j : Nat) (k : Nat) : Value := .int .u8 (tF p q i j k : Int)
theorem tF_lt (p q : List Nat) (i j k : Nat) : tF p q i j k < 256 := by
  unfold tF
  refine Gf.xor_lt ((mul_bb _ _).co k) ?_
  split
  · exact Gf.gm_lt _ _
  · omega
theorem tF_zero (p q : List Nat) (i k : Nat) : tF p q i 0 k = co (mul (p.take i) q) k := by unfold tF; rw [if_neg (by omega), Nat.xor_zero]
theorem tF_all (p q : List Nat) (i k : Nat) (hi : i < p.length) : tF p q i q.length k = tF p q (i + 1) 0 k := by
  rw [tF_zero, ← take_snoc (List.getElem?_eq_getElem hi), co_mul_snoc, ← co_get hi, List.length_take, Nat.min_eq_left (by omega)]
  unfold tF
  congr 1
  by_cases h : i ≤ k
  · rw [if_pos h]
    by_cases h2 : k < i + q.length
    · rw [if_pos ⟨h, h2⟩]
    · rw [if_neg (by omega), co_far (p := q) (by omega), Gf.gm_zero_right]
  · rw [if_neg h, if_neg (by omega)]
theorem tF_step (p q : List Nat) (i j k : Nat) : (if k = i + j then Value.int .u8 ((tF p q i j (i + j) ^^^ Gf.gm (co p i) (co q j) : Nat) : Int) else tRow p q i j k) = tRow p q i (j + 1) k := by
  unfold tRow
  by_cases h : k = i + j
  · subst h
    rw [if_pos rfl]
    congr 2
    unfold tF
    rw [if_neg (by omega), if_pos (by omega), Nat.xor_zero, show i + j - i = j from by omega]
  · rw [if_neg h]
    congr 2
    unfold tF
    by_cases h2 : i ≤ k ∧ k < i + j
    · rw [if_pos h2, if_pos (by omega)]
    · rw [if_neg h2, if_neg (by omega)]

theorem rmul_still (a b : Nat) (ha : a < 256) (hb : b < 256) (w : World) : Calls Try.prog 64 #[.int .u8 (a : Int), .int .u8 (b : Int)] w fun e w' => e = .returned (.int .u8 (Gf.gm a b : Int)) ∧ w' = w :=
  (rmul_any a b ha hb w).mono fun _ _ h => ⟨h.1, h.2.symm⟩
def TOut (w : World) (p q : List Nat) (i : Value) (wr : World) : Prop :=
  ∃ k : Nat, k ≤ p.length ∧ i = .int .i64 (k : Int) ∧ Row wr w.heap.size (p.length + q.length) (tRow p q k 0) ∧ Below w.heap.size w wr ∧ w.heap.size < wr.heap.size
def TIn (w : World) (p q : List Nat) (i : Nat) (j : Value) (wr : World) : Prop :=
  ∃ k : Nat, k ≤ q.length ∧ j = .int .i64 (k : Int) ∧ Row wr w.heap.size (p.length + q.length) (tRow p q i k) ∧ Below w.heap.size w wr ∧ w.heap.size < wr.heap.size

theorem times_set {p q : List Nat} {w wr : World} {i j s x y : Nat} (hrow : Row wr w.heap.size (p.length + q.length) (tRow p q i j)) (hs2 : s < p.length + q.length) (hs : s = i + j) (hx : co p i = x) (hy : co q j = y) :
    Row (wr.setCell ⟨w.heap.size, s, none⟩ (.int .u8 ((tF p q i j s ^^^ Gf.gm x y : Nat) : Int))) w.heap.size (p.length + q.length) (tRow p q i (j + 1)) := by
  subst hs hx hy
  exact (hrow.set hs2 _).congr (fun k _ => tF_step p q i j k)
/-- The row, as a slice. -/
def tList (p q : List Nat) : List Nat := (List.range (p.length + q.length)).map (co (mul p q))
theorem tList_len (p q : List Nat) : (tList p q).length = p.length + q.length := by simp [tList]
theorem tList_tr (p q : List Nat) : tr (tList p q) = tr (mul p q) := tr_ext (fun i => by
  by_cases h : i < p.length + q.length
  · rw [co_get (by rw [tList_len]; exact h)]; simp [tList]
  · rw [co_far (by rw [tList_len]; omega), co_far (by have := mul_len p q; omega)])
theorem times_in {p q : List Nat} {w wo : World} (hrow : Row wo w.heap.size (p.length + q.length) (tRow p q p.length 0)) (hlt : w.heap.size < wo.heap.size) :
    In wo wo.heap.size (some ⟨w.heap.size, 0, none⟩) (p.length + q.length) (tList p q) := by
  refine ⟨fun i x hx => ?_, by rw [tList_len]; exact Nat.le_refl _, fun h => by cases h⟩
  have hi : i < p.length + q.length := by rw [← tList_len p q]; exact (List.getElem?_eq_some_iff.1 hx).1
  have e : x = co (mul p q) i := by simp [tList, hi] at hx; exact hx.symm
  subst e
  refine ⟨(mul_bb p q).co i, w.heap.size, 0, rfl, hlt, ?_⟩
  have := (hrow i hi).1
  unfold tRow at this
  rw [tF_zero, List.take_length] at this
  rw [Nat.zero_add]; exact this

theorem times_trim {p q : List Nat} {w wo : World} (hin : In wo wo.heap.size (some ⟨w.heap.size, 0, none⟩) (p.length + q.length) (tList p q)) (hcm : p.length + q.length ≤ 140737488355328) :
    Calls Try.prog 67 #[.slice (some ⟨w.heap.size, 0, none⟩) (p.length + q.length) (p.length + q.length)] wo fun e w' => ∃ A' c', e = .returned (.slice A' (tr (mul p q)).length c') ∧ Gw.Own w' wo.heap.size 5 A' c' (tr (mul p q)) ∧ Below wo.heap.size wo w' := by
  have h := trim_any _ _ _ _ _ hin (Nat.le_refl _) (by rw [tList_len]; exact hcm)
  rw [tList_len, tList_tr] at h
  exact h

set_option maxRecDepth 100000 in
set_option maxHeartbeats 1000000 in
theorem rtimes_any (A A' : Option Addr) (c c' : Nat) (p q : List Nat) (w : World) (hp : In w w.heap.size A c p) (hq : In w w.heap.size A' c' q) (hcm : p.length + q.length ≤ 140737488355328) :
    Calls Try.prog 66 #[.slice A p.length c, .slice A' q.length c'] w fun e w' => ∃ A2 c2, e = .returned (.slice A2 (tr (mul p q)).length c2) ∧ Gw.Own w' w.heap.size 5 A2 c2 (tr (mul p q)) ∧ Below w.heap.size w w' := by
  have hmk := run_make_row' (P := Try.prog) 36 5 (.int .u8 0) 1 Try.underlying36 byte_info rfl .i64 .i64 (p.length + q.length) (by omega) (by omega)
  have ec : ((p.length + q.length : Nat) : Int) = (p.length : Int) + (q.length : Int) := by omega
  rw [ec] at hmk
  clear ec
  go_enter Try.func66, Try.ntmps66
  go_wp2
  clear hmk
  go_loopw [6] (TOut w p q) (fun i _ => p.length - (intOf i).toNat)
  case atStart =>
    refine ⟨0, Nat.zero_le _, rfl, Row.new w _ 5 _ _ (fun o ho => ?_), (Below.refl _ _).alloc (Nat.le_refl _) _, by simp⟩
    have e : tF p q 0 0 o = 0 := by rw [tF_zero]; simp [mul, co_nil]
    unfold tRow; rw [e]; simp [madeCells, ho, Nat.mod_one]
  case round =>
    obtain ⟨i, hi, rfl, hrow, hbel, hlt⟩ := hrel
    obtain ⟨wo, rfl⟩ : ∃ wo : World, wo = wr := ⟨_, rfl⟩
    have hP := (hp.below hbel).sl
    by_cases hip : i < p.length
    · obtain ⟨x, b, off, hx, hxb, rfl, hb, hcell⟩ := hP.at_ hip
      go_wp2
      go_loopw [7] (TIn w p q i) (fun j _ => q.length - (intOf j).toNat)
      case atStart => exact ⟨0, Nat.zero_le _, rfl, hrow, hbel, hlt⟩
      case round =>
        obtain ⟨j, hj, rfl, hrow2, hbel2, hlt2⟩ := hrel
        by_cases hjq : j < q.length
        · obtain ⟨y, b2, off2, hy, hyb, rfl, hb2, hcell2⟩ := (hq.below hbel2).sl.at_ hjq
          have hcellx : wr.cell? ⟨b, off + i, none⟩ = some (.int .u8 (x : Int)) := by
            obtain ⟨x', b', off', hx', _, e', _, hc'⟩ := (hp.below hbel2).sl.at_ hip
            rw [hx] at hx'; injection hx' with hx'; subst hx'
            injection e' with e'; injection e' with e1 e2; subst e1 e2; exact hc'
          obtain ⟨s, hs⟩ : ∃ s : Nat, s = i + j := ⟨_, rfl⟩
          have hs1 : IntKind.i64.wrap ((i : Int) + (j : Int)) = (s : Int) := by rw [IntKind.wrap_i64]; omega
          have hs2 : s < p.length + q.length := by omega
          have hs3 : (s : Int) < (p.length : Int) + (q.length : Int) := by omega
          have ho := hrow2 s hs2
          have HX := Lib.hid (co_of hx)
          have HY := Lib.hid (co_of hy)
          have HS := Lib.hid hs
          have hxor : bits .xor .u8 (tF p q i j s : Int) (Gf.gm x y : Int) = ((tF p q i j s ^^^ Gf.gm x y : Nat) : Int) := u8_xor_nat _ _ (tF_lt _ _ _ _ _) (Gf.gm_lt _ _)
          clear hs hx hy
          have ho1 := ho.1
          have ho2 := ho.2
          unfold tRow at ho1
          clear ho
          go_wp2
          go_still_tail 21, (by kernel_rfl)
          still_call (rmul_still x y hxb hyb _)
          repeat still_step
          refine wpStill_nil ?_
          change wpList _ _ _ _ _ wr.drew
          have hset := Lib.hid (times_set hrow2 hs2 HS.out HX.out HY.out)
          have hbel3 := Lib.hid (hbel2.setCell (p := ⟨w.heap.size, s, none⟩) (Nat.le_refl _) (.int .u8 ((tF p q i j s ^^^ Gf.gm x y : Nat) : Int)))
          clear hs1 hrow2
          go_wp2
          go_roundw
          case rel => exact ⟨j + 1, by omega, by go_num, hset.out, ⟨hbel3.out.os, hbel3.out.tape, hbel3.out.output, hbel3.out.size, hbel3.out.block⟩, by simpa using hlt2⟩
          case measure => simp [intOf]; omega
        · obtain rfl : j = q.length := by omega
          have hrow3 := Lib.hid (hrow2.congr (g := tRow p q (i + 1) 0) (fun k _ => by unfold tRow; rw [tF_all p q i k hip]))
          clear hrow2
          go_wp2
          go_roundw
          case rel => exact ⟨i + 1, by omega, by go_num, hrow3.out, hbel2, hlt2⟩
          case measure => simp [intOf]; omega
    · obtain rfl : i = p.length := by omega
      have hT := times_trim (times_in hrow hlt) hcm
      have HT := Lib.hid hT
      clear hP hT
      go_wp2_with fail
      refine HT.out.mono ?_
      rintro e w' ⟨A2, c2, rfl, hown2, hb2⟩
      go_wp2
      go_ret
      exact ⟨A2, c2, rfl, hown2.base (by omega), hbel.trans (hb2.mono (by omega))⟩
end Go.Proofs.Ytgikgnhpplmljaa
end
section
/- What the definition's own Roots (package shamrockref01) does; its functions over lengths as letters. -/
namespace Go.Proofs.Ytgikgnhpplmljaa
open Go.RowKit Go.Shelf Gw Pol
theorem rtimes' (A A' : Option Addr) (c c' n m : Nat) (p q : List Nat) (w : World) (hn : n = p.length) (hm : m = q.length) (hp : In w w.heap.size A c p) (hq : In w w.heap.size A' c' q) (hcm : p.length + q.length ≤ 140737488355328) :
    Calls Try.prog 66 #[.slice A n c, .slice A' m c'] w fun e w' => ∃ A2 c2, e = .returned (.slice A2 (tr (mul p q)).length c2) ∧ Gw.Own w' w.heap.size 5 A2 c2 (tr (mul p q)) ∧ Below w.heap.size w w' := by
  subst hn hm; exact rtimes_any A A' c c' p q w hp hq hcm
theorem radd' (A A' : Option Addr) (c c' n m : Nat) (p q : List Nat) (w : World) (hn : n = p.length) (hm : m = q.length) (hp : In w w.heap.size A c p) (hq : In w w.heap.size A' c' q) (hcm : p.length + q.length ≤ 140737488355328) :
    Calls Try.prog 48 #[.slice A n c, .slice A' m c'] w fun e w' => ∃ A2 c2, e = .returned (.slice A2 (tr (add p q)).length c2) ∧ Gw.Own w' w.heap.size 5 A2 c2 (tr (add p q)) ∧ Below w.heap.size w w' := by
  subst hn hm; exact radd_any A A' c c' p q w hp hq hcm
theorem reval' (A : Option Addr) (c n : Nat) (l : List Nat) (x : Nat) (hx : x < 256) (w : World) (B : Nat) (hn : n = l.length) (hI : In w B A c l) (hcm : l.length ≤ 140737488355328) :
    Calls Try.prog 43 #[.slice A n c, .int .u8 (x : Int)] w fun e w' => e = .returned (.int .u8 (ev x l : Int)) ∧ w = w' := by
  subst hn; exact reval_any A c l x hx w B hI hcm
theorem trim' (A : Option Addr) (c n : Nat) (l : List Nat) (w : World) (B : Nat) (hn : n = l.length) (hI : In w B A c l) (hB : B ≤ w.heap.size) (hcm : l.length ≤ 140737488355328) :
    Calls Try.prog 67 #[.slice A n c] w fun e w' => ∃ A' c', e = .returned (.slice A' (tr l).length c') ∧ Gw.Own w' w.heap.size 5 A' c' (tr l) ∧ Below w.heap.size w w' := by
  subst hn; exact trim_any A c l w B hI hB hcm
def RootsRel (w : World) (xs : List Nat) (v i : Value) (wr : World) : Prop :=
  ∃ (k : Nat) (A : Option Addr) (c : Nat), v = .slice A (k + 1) c ∧ i = .int .i64 (k : Int) ∧ k ≤ xs.length ∧ Gw.Own wr w.heap.size 5 A c (rt (xs.take k)) ∧ Below w.heap.size w wr
theorem rt_len_take {xs : List Nat} {k : Nat} (hk : k ≤ xs.length) : (rt (xs.take k)).length = k + 1 := by
  rw [(rt_top _).1, List.length_take, Nat.min_eq_left hk]
set_option maxRecDepth 100000 in
set_option maxHeartbeats 1000000 in
/-- The polynomial of some roots. -/
theorem rroots_any (A : Option Addr) (c : Nat) (xs : List Nat) (w : World) (hI : In w w.heap.size A c xs) (hcm : xs.length ≤ 70368744177664) :
    Calls Try.prog 46 #[.slice A xs.length c] w fun e w' => ∃ A2 c2, e = .returned (.slice A2 (rt xs).length c2) ∧ Gw.Own w' w.heap.size 5 A2 c2 (rt xs) ∧ Below w.heap.size w w' := by
  go_enter Try.func46, Try.ntmps46
  go_wp2
  go_loopw [3, 4] (RootsRel w xs) (fun _ i _ => xs.length - (intOf i).toNat)
  case atStart => exact ⟨0, some ⟨w.heap.size, 0, none⟩, 1, rfl, rfl, Nat.zero_le _, ⟨World.ownsRow_lit w #[.int .u8 1] 1 (Nat.le_refl _) (by simp [maxLen]) rfl, rt_bb _⟩, (Below.refl _ _).alloc (Nat.le_refl _) _⟩
  case round =>
    obtain ⟨k, Ao, co', rfl, rfl, hk, hown, hbel⟩ := hrel
    have hbs := hbel.size
    by_cases hkp : k < xs.length
    · obtain ⟨x, b, off, hx, hxb, rfl, hb, hcell⟩ := (hI.below hbel).sl.at_ hkp
      have HT := Lib.hid (show rt (xs.take (k + 1)) = tr (mul (rt (xs.take k)) [x, 1]) by rw [← take_snoc hx, rt_snoc])
      have HL := Lib.hid (rt_len_take (xs := xs) (k := k) hk)
      have HL2 := Lib.hid (rt_len_take (xs := xs) (k := k + 1) hkp)
      clear hx
      go_wp2_with fail
      refine (rtimes' Ao (some ⟨wr.heap.size, 0, none⟩) co' 2 (k + 1) 2 (rt (xs.take k)) [x, 1] _ HL.out.symm rfl (hown.alloc _).inn ⟨(Sl.two wr 5 x 1 hxb (by omega)).more (by simp), by simp, fun h => by cases h⟩ (by rw [HL.out]; simp; omega)).mono ?_
      rintro e w' ⟨A2, c2, rfl, hown2, hb2⟩
      rw [← HT.out] at hown2 ⊢
      rw [HL2.out]
      have hb3 := (hbel.alloc hbs (.cells #[.int .u8 (x : Int), .int .u8 1] 5)).trans (hb2.mono (by simp; omega))
      have hown3 := hown2.base (base' := w.heap.size) (by simp; omega)
      clear hown2 hb2
      go_wp2
      go_roundw
      case rel => exact ⟨k + 1, A2, c2, rfl, by go_num, by omega, hown3, hb3⟩
      case measure => simp [intOf]; omega
    · obtain rfl : k = xs.length := by omega
      have HT := Lib.hid (rt_len_take (xs := xs) (k := xs.length) (Nat.le_refl _))
      rw [List.take_length] at hown
      go_wp2
      go_ret
      exact ⟨Ao, co', by rw [(rt_top xs).1]; rfl, hown, hbel⟩

/-- No two of the first k are the same. -/
def UnTo (xs : List Nat) (k : Nat) : Prop := ∀ i j, i < k → j < i → co xs i ≠ co xs j
/-- Are all unlike? -/
def unB (xs : List Nat) : Bool := decide xs.Nodup
theorem unB_yes {xs : List Nat} (h : UnTo xs xs.length) : unB xs = true := by
  unfold unB; rw [decide_eq_true_eq]
  rw [List.nodup_iff_pairwise_ne, List.pairwise_iff_getElem]
  intro i j hi hj hij
  have := h j i hj hij
  rw [co_get hi, co_get hj] at this
  exact fun e => this e.symm
theorem unB_no {xs : List Nat} {i j : Nat} (hi : i < xs.length) (hj : j < i) (h : co xs i = co xs j) : unB xs = false := by
  unfold unB; rw [decide_eq_false_iff_not]
  intro hn
  rw [co_get hi, co_get (by omega)] at h
  have := (List.getElem_inj hn).1 h
  omega
theorem reval_same (A : Option Addr) (c : Nat) (l : List Nat) (x : Nat) (hx : x < 256) (w : World) (B : Nat) (hI : In w B A c l) (hcm : l.length ≤ 140737488355328) :
    Calls Try.prog 43 #[.slice A l.length c, .int .u8 (x : Int)] w fun e w' => e = .returned (.int .u8 (ev x l : Int)) ∧ w' = w :=
  (reval_any A c l x hx w B hI hcm).mono fun _ _ h => ⟨h.1, h.2.symm⟩
theorem rinv_same (a : Nat) (ha : a < 256) (w : World) : Calls Try.prog 68 #[.int .u8 (a : Int)] w fun e w' => e = .returned (.int .u8 (Gf.inv a : Int)) ∧ w' = w :=
  (rinv_any a ha w).mono fun _ _ h => ⟨h.1, h.2.symm⟩
/-- At how many of the first k points has p the value? -/
def agrTo (p xs ys : List Nat) : Nat → Nat
  | 0 => 0
  | k + 1 => if ev (co xs k) p = co ys k then agrTo p xs ys k + 1 else agrTo p xs ys k
theorem agrTo_le (p xs ys : List Nat) (k : Nat) : agrTo p xs ys k ≤ k := by
  induction k with
  | zero => exact Nat.le_refl _
  | succ k ih => unfold agrTo; split <;> omega
end Go.Proofs.Ytgikgnhpplmljaa
end
section
/- Words of values in plain numbers: a polynomial's values at some points, how often two agree, and that few points tell them apart. -/
namespace Pol
open Go.Proofs.Ytgikgnhpplmljaa

/-- The values of p at all of xs. -/
def enc (p xs : List Nat) : List Nat := xs.map (fun x => ev x p)
theorem enc_len (p xs : List Nat) : (enc p xs).length = xs.length := by simp [enc]
theorem enc_bb {p : List Nat} (hp : BB p) (xs : List Nat) : BB (enc p xs) := fun y hy => by
  obtain ⟨x, _, rfl⟩ := List.mem_map.1 hy
  exact ev_lt hp x
theorem enc_at {p xs : List Nat} {j : Nat} (hj : j < xs.length) : co (enc p xs) j = ev xs[j] p := by
  rw [co_get (by rw [enc_len]; exact hj)]; simp [enc]
theorem enc_get {p xs : List Nat} {j x : Nat} (h : xs[j]? = some x) : (enc p xs)[j]? = some (ev x p) := by simp [enc, h]
/-- The row when k values are written. -/
def encTo (p xs : List Nat) (k : Nat) : List Nat := (List.range xs.length).map (fun j => if j < k then ev (co xs j) p else 0)
theorem encTo_len (p xs : List Nat) (k : Nat) : (encTo p xs k).length = xs.length := by simp [encTo]
theorem co_encTo {p xs : List Nat} {k j : Nat} (h : j < xs.length) : co (encTo p xs k) j = if j < k then ev (co xs j) p else 0 := by
  rw [co_get (by rw [encTo_len]; exact h)]; simp [encTo]
theorem encTo_zero (p xs : List Nat) : encTo p xs 0 = List.replicate xs.length 0 := by
  refine ext_co (by rw [encTo_len, List.length_replicate]) fun i hi => ?_
  rw [encTo_len] at hi
  rw [co_encTo hi, if_neg (by omega)]
  unfold co
  simp [hi]
theorem encTo_all (p xs : List Nat) : encTo p xs xs.length = enc p xs := by
  refine ext_co (by rw [encTo_len, enc_len]) fun i hi => ?_
  rw [encTo_len] at hi
  rw [co_encTo hi, if_pos hi, enc_at hi, co_get hi]
theorem encTo_step {p xs : List Nat} {k x : Nat} (hx : xs[k]? = some x) : (encTo p xs k).set k (ev x p) = encTo p xs (k + 1) := by
  obtain ⟨hk, rfl⟩ := List.getElem?_eq_some_iff.1 hx
  refine ext_co (by rw [List.length_set, encTo_len, encTo_len]) fun i hi => ?_
  rw [List.length_set, encTo_len] at hi
  by_cases e : i = k
  · subst e
    rw [co_encTo hi, if_pos (by omega), co_get (by rw [List.length_set, encTo_len]; exact hi), co_get hi]
    simp
  · rw [co_set_ne e, co_encTo hi, co_encTo hi]
    by_cases h : i < k
    · rw [if_pos h, if_pos (by omega)]
    · rw [if_neg h, if_neg (by omega)]
theorem agr_enc (p xs : List Nat) : ∀ k, k ≤ xs.length → agrTo p xs (enc p xs) k = k := by
  intro k
  induction k with
  | zero => intro _; rfl
  | succ k ih =>
    intro hk
    rw [agrTo, if_pos (by rw [enc_at (by omega), co_get (by omega)]), ih (by omega)]
/-- How many of the first k values of two rows are the same. -/
def sameTo (a b : List Nat) : Nat → Nat
  | 0 => 0
  | k + 1 => if co a k = co b k then sameTo a b k + 1 else sameTo a b k
theorem sameTo_le (a b : List Nat) (k : Nat) : sameTo a b k ≤ k := by
  induction k with
  | zero => exact Nat.le_refl _
  | succ k ih => unfold sameTo; split <;> omega
theorem same_filter (p q xs : List Nat) : ∀ k, k ≤ xs.length → sameTo (enc p xs) (enc q xs) k = ((xs.take k).filter (fun x => decide (ev x p = ev x q))).length := by
  intro k
  induction k with
  | zero => intro _; rfl
  | succ k ih =>
    intro hk
    have hx := List.getElem?_eq_getElem (show k < xs.length by omega)
    rw [sameTo, enc_at (by omega), enc_at (by omega), List.take_add_one, hx, List.filter_append, List.length_append, ih (by omega)]
    by_cases e : ev xs[k] p = ev xs[k] q
    · rw [if_pos e]; simp [e]
    · rw [if_neg e]; simp [e]
/-- Two unlike polynomials agree at few points. -/
theorem few_same {p q xs : List Nat} (hp : BB p) (hq : BB q) (hx : BB xs) (hn : xs.Nodup) (hne : tr p ≠ tr q) : sameTo (enc p xs) (enc q xs) xs.length < max p.length q.length := by
  rw [same_filter p q xs xs.length (Nat.le_refl _), List.take_length]
  rcases Nat.lt_or_ge (xs.filter (fun x => decide (ev x p = ev x q))).length (max p.length q.length) with h | h
  · exact h
  · exact absurd (tr_ext (unique hp hq (Dg.len (Nat.le_max_left _ _)) (Dg.len (Nat.le_max_right _ _)) (fun x hx' => hx x (List.mem_filter.1 hx').1) (hn.filter _) h
      (fun x hx' => by simpa using (List.mem_filter.1 hx').2))) hne
/-- Values at enough points make the polynomial again. -/
theorem thr_enc {p xs : List Nat} (hp : BB p) (hx : BB xs) (hn : xs.Nodup) (hl : (tr p).length ≤ xs.length) : thr xs (enc p xs) = tr p := by
  rw [← tr_tr p]
  exact (thr_only hx (enc_bb hp xs) hn (tr_bb hp) (Dg.len hl) (fun j hj => by rw [ev_tr, enc_at hj])).symm
theorem tr_thr (xs ys : List Nat) : tr (thr xs ys) = thr xs ys := by unfold thr; rw [tr_tr]
theorem enc_add {p q xs : List Nat} (hp : BB p) (hq : BB q) (hx : BB xs) {j x : Nat} (h : xs[j]? = some x) : ev x (tr (add p q)) = ev x p ^^^ ev x q := by
  rw [ev_tr, ev_add hp hq (hx x (List.mem_of_getElem? h))]
end Pol
end
section
/- Words of which some values are wrong, in numbers: which places are wrong; a polynomial that is agreed on is alone; Euclid's rests; the first rest that is low enough, divided by its factor, is the polynomial that is agreed on. -/
namespace Pol
open Go.Proofs.Ytgikgnhpplmljaa

/-- The places below k at which p has another value. -/
def wrTo (p xs ys : List Nat) : Nat → List Nat
  | 0 => []
  | k + 1 => if ev (co xs k) p = co ys k then wrTo p xs ys k else wrTo p xs ys k ++ [k]
theorem wrTo_agr (p xs ys : List Nat) (k : Nat) : (wrTo p xs ys k).length + agrTo p xs ys k = k := by
  induction k with
  | zero => simp [wrTo, agrTo]
  | succ k ih => unfold wrTo agrTo; split <;> (try rw [List.length_append, List.length_singleton]) <;> omega
theorem wrTo_lt (p xs ys : List Nat) (k : Nat) : ∀ i ∈ wrTo p xs ys k, i < k := by
  induction k with
  | zero => simp [wrTo]
  | succ k ih =>
    intro i hi
    unfold wrTo at hi
    split at hi
    · have := ih i hi; omega
    · rcases List.mem_append.1 hi with h | h
      · have := ih i h; omega
      · simp at h; omega
theorem wrTo_mem (p xs ys : List Nat) (k j : Nat) (hj : j < k) : ev (co xs j) p = co ys j ∨ j ∈ wrTo p xs ys k := by
  induction k with
  | zero => omega
  | succ k ih =>
    by_cases e : j = k
    · subst e
      unfold wrTo
      split
      · exact .inl ‹_›
      · exact .inr (by simp)
    · rcases ih (by omega) with h | h
      · exact .inl h
      · refine .inr ?_
        unfold wrTo
        split
        · exact h
        · exact List.mem_append.2 (.inl h)

/-- A polynomial is agreed on, by d and e. -/
structure Agd (xs ys : List Nat) (d e : Int) (p : List Nat) : Prop where
  bb : BB p
  tr_ : tr p = p
  len : xs.length = ys.length
  few : xs.length ≤ 255
  un : xs.Nodup
  d0 : 0 ≤ d
  d1 : d ≤ 255
  e0 : 0 ≤ e
  e1 : e ≤ 255
  deg : (p.length : Int) ≤ d + 1
  most : ((wrTo p xs ys xs.length).length : Int) ≤ e
  own : ((wrTo p xs ys xs.length).length : Int) + (d + 1 + e) ≤ xs.length

theorem agr_same {p q xs ys : List Nat} : ∀ k, k ≤ xs.length → agrTo p xs ys k + agrTo q xs ys k ≤ k + sameTo (enc p xs) (enc q xs) k := by
  intro k
  induction k with
  | zero => intro _; simp [agrTo]
  | succ k ih =>
    intro hk
    have := ih (by omega)
    unfold agrTo sameTo
    have e1 := enc_at (p := p) (xs := xs) (j := k) (by omega)
    have e2 := enc_at (p := q) (xs := xs) (j := k) (by omega)
    rw [co_get (p := xs) (i := k) (by omega), e1, e2]
    by_cases h1 : ev xs[k] p = co ys k
    · by_cases h2 : ev xs[k] q = co ys k
      · rw [if_pos h1, if_pos h2, if_pos (by rw [h1, h2])]; omega
      · rw [if_pos h1, if_neg h2]; split <;> omega
    · by_cases h2 : ev xs[k] q = co ys k
      · rw [if_neg h1, if_pos h2]; split <;> omega
      · rw [if_neg h1, if_neg h2]; split <;> omega
/-- Polynomials of a degree of d at most that have at least m and m' of n values, where m + m' is more than n + d, are the same. -/
theorem agr_alone {xs ys p q : List Nat} {D : Nat} (hp : BB p) (hq : BB q) (tp : tr p = p) (tq : tr q = q) (hx : BB xs) (hn : xs.Nodup) (hlp : p.length ≤ D) (hlq : q.length ≤ D)
    (h : xs.length + D ≤ agrTo p xs ys xs.length + agrTo q xs ys xs.length) : p = q := by
  refine Decidable.byContradiction fun hne => ?_
  have h1 := few_same hp hq hx hn (by rw [tp, tq]; exact hne)
  have h2 := agr_same (p := p) (q := q) (xs := xs) (ys := ys) xs.length (Nat.le_refl _)
  omega
theorem Agd.alone {xs ys : List Nat} {d e : Int} {p q : List Nat} (hx : BB xs) (h : Agd xs ys d e p) (k : Agd xs ys d e q) : p = q := by
  have h1 := wrTo_agr p xs ys xs.length
  have h2 := wrTo_agr q xs ys xs.length
  have := h.own; have := k.most; have := h.d0; have := h.deg; have := k.deg
  exact agr_alone (D := (d + 1).toNat) (ys := ys) h.bb k.bb h.tr_ k.tr_ hx h.un (by omega) (by omega) (by omega)

theorem ev_all {p q : List Nat} (hp : BB p) (hq : BB q) (hdp : Dg p 256) (hdq : Dg q 256) (h : ∀ x, x < 256 → ev x p = ev x q) : ∀ i, co p i = co q i :=
  unique (xs := List.range 256) hp hq hdp hdq (fun x hx => List.mem_range.1 hx) List.nodup_range (by simp) (fun x hx => h x (List.mem_range.1 hx))
theorem mul_dg {p q : List Nat} {n m : Nat} (hp : Dg p n) (hq : Dg q m) : Dg (mul p q) (n + m - 1) := fun k hk => by
  rw [← mul_left_tr]
  have := hp.tr
  exact mul_far hq (by omega)
theorem mul_none {p q : List Nat} (hp : tr p ≠ []) (hq : tr q ≠ []) : ∃ k, (tr q).length ≤ k + 1 ∧ k + 2 = (tr p).length + (tr q).length ∧ co (mul p q) k ≠ 0 := by
  have l1 := List.length_pos_iff.2 hp
  have l2 := List.length_pos_iff.2 hq
  refine ⟨(tr p).length + (tr q).length - 2, by omega, by omega, ?_⟩
  have h := mul_top (p := tr p) (q := tr q) (m := (tr q).length) hp (Dg.len (Nat.le_refl _)) l2
  rw [mul_tr_tr] at h
  rw [h]
  refine Gf.gm_ne ?_ ?_
  · rw [co_tr]; exact tr_last hp
  · rw [co_tr]; exact tr_last hq

/-- What Euclid's rests are like: r0 the one ahead, r1 this one, v1 its factor. -/
structure Eu (xs ys r0 v0 r1 v1 : List Nat) : Prop where
  b0 : BB r0
  b1 : BB r1
  c0 : BB v0
  c1 : BB v1
  t1 : tr r1 = r1
  u0 : tr v0 = v0
  u1 : tr v1 = v1
  p0 : ∀ j (hj : j < xs.length), ev xs[j] r0 = Gf.gm (ev xs[j] v0) (co ys j)
  p1 : ∀ j (hj : j < xs.length), ev xs[j] r1 = Gf.gm (ev xs[j] v1) (co ys j)
  fall : r1.length < r0.length
  rise : v0.length < v1.length
  sum : v1.length + r0.length ≤ xs.length + 2
theorem Eu.start {xs ys : List Nat} (hx : BB xs) (hy : BB ys) (hn : xs.Nodup) : Eu xs ys (rt xs) [] (thr xs ys) [1] := by
  have hb1 : BB [1] := BB.cons (by omega) BB.nil
  refine ⟨rt_bb _, thr_bb _ _, BB.nil, hb1, tr_thr _ _, rfl, tr_self (.inr (by simp [co])), fun j hj => ?_, fun j hj => ?_, ?_, by simp, ?_⟩
  · rw [(ev_rt_zero hx (hx.get hj)).2 (List.getElem_mem hj)]
    exact (Gf.gm_zero_left _).symm
  · rw [thr_at hx hy hn hj]
    have : ev xs[j] [1] = 1 := by simp [ev, Gf.gm_zero_right]
    rw [this, Gf.gm_one_left (hy.co j)]
  · rw [(rt_top xs).1]; have := thr_len xs ys; omega
  · rw [(rt_top xs).1]; simp; omega
theorem Eu.step {xs ys r0 v0 r1 v1 q r2 : List Nat} (hx : BB xs) (hy : BB ys) (h : Eu xs ys r0 v0 r1 v1) (t0 : tr r0 = r0) (hne : r1 ≠ []) (hd : DivOf r0 r1 q r2) : Eu xs ys r1 v1 r2 (tr (add v0 (tr (mul q v1)))) := by
  have l0 : tr r0 ≠ [] := by rw [t0]; intro e; have := h.fall; rw [e] at this; simp at this
  have hr1 : tr r1 ≠ [] := by rw [h.t1]; exact hne
  have hv1 : v1 ≠ [] := fun e => by have := h.rise; rw [e] at this; simp at this
  have hlr := hd.lr
  rw [h.t1] at hlr
  have hfall := h.fall
  have hrise := h.rise
  have hpos := List.length_pos_iff.2 hne
  -- q's length
  have hq0 : tr q ≠ [] := by
    intro e
    have : ∀ k, co r0 k = co r2 k := fun k => by
      rw [hd.eq k, ← mul_left_tr, e]
      show co [] k ^^^ _ = _
      rw [co_nil, Nat.zero_xor]
    have h2 := tr_last l0
    rw [t0, this, co_far (by omega)] at h2
    exact h2 rfl
  obtain ⟨k, hk1, hk2, hk3⟩ := mul_none hq0 hr1
  rw [h.t1] at hk1 hk2
  rw [hd.tq] at hk2
  have hql : q.length + r1.length = r0.length + 1 := by
    have h1 : co r0 k ≠ 0 := by rw [hd.eq k, co_far (p := r2) (by omega), Nat.xor_zero]; exact hk3
    have h2 : k < r0.length := Decidable.byContradiction fun hge => h1 (co_far (by omega))
    have h3 : ¬ (k + 1 < r0.length) := fun hlt => by
      have h4 := tr_last l0
      rw [t0, hd.eq, co_far (p := r2) (by omega), Nat.xor_zero] at h4
      refine h4 (mul_far (m := r1.length) (Dg.len (Nat.le_refl _)) (by omega))
    omega
  have hq1 : q ≠ [] := fun e => by rw [e] at hq0; exact hq0 rfl
  have hmul : tr (mul q v1) = pl q v1 := by
    have := pl_tr (p := q) (q := v1) hq0 (by rw [h.u1]; exact hv1)
    rw [hd.tq, h.u1] at this; exact this
  have hml : (tr (mul q v1)).length = q.length + v1.length - 1 := by rw [hmul, pl_len]
  have hmt : co (mul q v1) (q.length + v1.length - 2) ≠ 0 := by
    obtain ⟨k', h1, h2, h3⟩ := mul_none (p := q) (q := v1) hq0 (by rw [h.u1]; exact hv1)
    rw [hd.tq, h.u1] at h2
    rw [show q.length + v1.length - 2 = k' by omega]; exact h3
  have hv1p := List.length_pos_iff.2 hv1
  have hqp := List.length_pos_iff.2 hq1
  have hbm : BB (tr (mul q v1)) := tr_bb (mul_bb _ _)
  have hself : tr (add v0 (tr (mul q v1))) = add v0 (tr (mul q v1)) := by
    refine tr_self (.inr ?_)
    rw [add_len, hml, co_add, co_far (p := v0) (by omega), Nat.zero_xor, co_tr]
    rw [show max v0.length (q.length + v1.length - 1) - 1 = q.length + v1.length - 2 by omega]; exact hmt
  have hvl : (tr (add v0 (tr (mul q v1)))).length = q.length + v1.length - 1 := by rw [hself, add_len, hml]; omega
  refine ⟨h.b1, hd.br, h.c1, tr_bb (add_bb h.c0 hbm), hd.tr_, h.u1, tr_tr _, h.p1, fun j hj => ?_, by omega, by omega, by have := h.sum; omega⟩
  have hxj := hx.get hj
  have e1 : ev xs[j] r0 = Gf.gm (ev xs[j] q) (ev xs[j] r1) ^^^ ev xs[j] r2 := by
    rw [← ev_mul hd.bq h.b1 hxj, ← ev_add (mul_bb _ _) hd.br hxj]
    exact ev_ext _ (fun i => by rw [co_add]; exact hd.eq i)
  have e2 : ev xs[j] r2 = ev xs[j] r0 ^^^ Gf.gm (ev xs[j] q) (ev xs[j] r1) := by
    rw [e1, Nat.xor_comm (Gf.gm _ _), Nat.xor_assoc, Nat.xor_self, Nat.xor_zero]
  rw [e2, ev_tr, ev_add h.c0 hbm hxj, ev_tr, ev_mul hd.bq h.c1 hxj, h.p0 j hj, h.p1 j hj, Gf.gm_xor_left (ev_lt h.c0 _) (Gf.gm_lt _ _) (hy.co j), Gf.gm_assoc (ev_lt hd.bq _) (ev_lt h.c1 _) (hy.co j)]

/-- The first rest that is low enough, divided by its factor, is the polynomial that is agreed on. -/
theorem Eu.finds {xs ys r0 v0 r1 v1 q r p : List Nat} {d e : Int} (hx : BB xs) (h : Eu xs ys r0 v0 r1 v1) (hp : Agd xs ys d e p) (high : (xs.length : Int) + d + 3 ≤ 2 * r0.length) (low : 2 * (r1.length : Int) < xs.length + d + 3)
    (hd : DivOf r1 v1 q r) : q = p ∧ r = [] := by
  have hv1 : v1 ≠ [] := fun e => by have := h.rise; rw [e] at this; simp at this
  have hown := hp.own; have hmost := hp.most; have hdeg := hp.deg; have hd0 := hp.d0; have hfew := hp.few
  have hfall := h.fall; have hsum := h.sum; have hqr := hd.lq
  obtain ⟨ws, hws⟩ : ∃ ws, ws = (wrTo p xs ys xs.length).map (co xs) := ⟨_, rfl⟩
  have hwl : ws.length = (wrTo p xs ys xs.length).length := by rw [hws]; simp
  have hwb : BB ws := fun x hx' => by
    rw [hws] at hx'
    obtain ⟨i, _, rfl⟩ := List.mem_map.1 hx'
    exact hx.co i
  obtain ⟨z, hz⟩ : ∃ z, z = add r1 (mul v1 p) := ⟨_, rfl⟩
  have hzb : BB z := by rw [hz]; exact add_bb h.b1 (mul_bb _ _)
  have hzd : ∃ M, Dg z M ∧ ws.length + M ≤ xs.length := by
    refine ⟨max r1.length (v1.length + p.length - 1), ?_, by omega⟩
    rw [hz]
    exact Dg.add (Dg.len (by omega)) ((mul_dg (Dg.len (Nat.le_refl _)) (Dg.len (Nat.le_refl _))).mono (by omega))
  obtain ⟨M, hM, hMn⟩ := hzd
  have hZ : ∀ i, co (mul (rt ws) z) i = 0 := by
    refine no_roots (n := xs.length) (xs := xs) (mul_bb _ _) ?_ hx hp.un (Nat.le_refl _) ?_
    · refine (mul_dg (Dg.len (n := ws.length + 1) (by rw [(rt_top ws).1]; exact Nat.le_refl _)) hM).mono (by omega)
    · intro x hxm
      obtain ⟨j, hj, rfl⟩ := List.getElem_of_mem hxm
      have hxj := hx.get hj
      rw [ev_mul (rt_bb _) hzb hxj]
      rcases wrTo_mem p xs ys xs.length j hj with he | hw
      · rw [co_get hj] at he
        rw [hz, ev_add h.b1 (mul_bb _ _) hxj, ev_mul h.c1 hp.bb hxj, he, h.p1 j hj, Nat.xor_self, Gf.gm_zero_right]
      · rw [(ev_rt_zero hwb hxj).2 (by rw [hws]; exact List.mem_map.2 ⟨j, hw, co_get hj⟩), Gf.gm_zero_left]
  have hzz : tr z = [] := Decidable.byContradiction fun hne => by
    obtain ⟨k, _, _, h3⟩ := mul_none (p := rt ws) (q := z) (by
      intro e
      have := (tr_nil_iff _).1 e ws.length
      rw [(rt_top ws).2] at this
      omega) hne
    exact h3 (hZ k)
  have hrv : ∀ i, co r1 i = co (mul v1 p) i := fun i => by
    have := (tr_nil_iff _).1 hzz i
    rw [hz, co_add] at this
    exact xor_eq_zero this
  have hrem : ∀ i, co (mul (add p q) v1) i = co r i := by
    have hrl := hd.lr
    rw [h.u1] at hrl
    refine ev_all (mul_bb _ _) hd.br ((mul_dg (Dg.len (n := max p.length q.length) (by rw [add_len]; exact Nat.le_refl _)) (Dg.len (Nat.le_refl v1.length))).mono (by omega)) (Dg.len (by omega)) fun x hx' => ?_
    rw [ev_mul (add_bb hp.bb hd.bq) h.c1 hx', ev_add hp.bb hd.bq hx', Gf.gm_xor_left (ev_lt hp.bb _) (ev_lt hd.bq _) (ev_lt h.c1 _)]
    have e1 : ev x r1 = Gf.gm (ev x p) (ev x v1) := by rw [ev_ext x hrv, ev_mul h.c1 hp.bb hx', Gf.gm_comm]
    have e2 : ev x r1 = Gf.gm (ev x q) (ev x v1) ^^^ ev x r := by
      rw [← ev_mul hd.bq h.c1 hx', ← ev_add (mul_bb _ _) hd.br hx']
      exact ev_ext _ (fun i => by rw [co_add]; exact hd.eq i)
    rw [← e1, e2, Nat.xor_comm (Gf.gm _ _), Nat.xor_assoc, Nat.xor_self, Nat.xor_zero]
  have hpq : tr (add p q) = [] := Decidable.byContradiction fun hne => by
    obtain ⟨k, h1, _, h3⟩ := mul_none (p := add p q) (q := v1) hne (by rw [h.u1]; exact hv1)
    have hrl := hd.lr
    rw [h.u1] at h1 hrl
    rw [hrem k] at h3
    exact h3 (co_far (by omega))
  have e : ∀ i, co p i = co q i := fun i => by
    have := (tr_nil_iff _).1 hpq i
    rw [co_add] at this
    exact xor_eq_zero this
  refine ⟨?_, ?_⟩
  · rw [← hd.tq, ← hp.tr_]; exact (tr_ext e).symm
  · rw [← hd.tr_]
    refine (tr_nil_iff _).2 fun i => ?_
    rw [← hrem i, ← mul_left_tr, hpq]
    exact co_nil i
end Pol
end
section
/- A struct of five ints as an argument: opened and shut. -/
namespace Gw
open Go Go.RowKit Go.ChangeShapes Go.WideShapes Go.Lib Go.Deep
section
variable {H : Type} {enc : TypeId × Value → H} {P : Program} {w : World} {base : Nat} {spare : Nat → Bool} {held : Bool}
theorem array5 {α : Type} {cs : Array α} (h : cs.size = 5) : ∃ c0 c1 c2 c3 c4, cs = #[c0, c1, c2, c3, c4] := by
  obtain ⟨l⟩ := cs
  match l, h with
  | [c0, c1, c2, c3, c4], _ => exact ⟨c0, c1, c2, c3, c4, rfl⟩
/-- Five ints as one value. -/
abbrev pv (a0 a1 a2 a3 a4 : Int) : Value := .agg #[.int .i64 a0, .int .i64 a1, .int .i64 a2, .int .i64 a3, .int .i64 a4]
theorem open_five {r : Reach} {b0 : Nat} {t q : TypeId} {f0 f1 f2 f3 f4 : Field} {v : Value} {d : DataW H} {p : List MemPlace} (hs : P.underlying t = some (.struct #[f0, f1, f2, f3, f4])) (hone : oneCellFields P #[f0, f1, f2, f3, f4] = true) (hC : P.cellsOf t = 5)
    (q0 : f0.type = q) (q1 : f1.type = q) (q2 : f2.type = q) (q3 : f3.type = q) (q4 : f4.type = q) (hq : P.underlying q = some (.int .i64)) (hv : Value.okWide P w r b0 t v) (h : DataW.Trod enc P w base spare held t v d p) :
    ∃ a0 a1 a2 a3 a4 : Int, v = pv a0 a1 a2 a3 a4 ∧ d = .agg [.lit (.int .i64 a0), .lit (.int .i64 a1), .lit (.int .i64 a2), .lit (.int .i64 a3), .lit (.int .i64 a4)] ∧ p = [] ∧
      ((Lit.int .i64 a0).wf = true ∧ (Lit.int .i64 a1).wf = true ∧ (Lit.int .i64 a2).wf = true ∧ (Lit.int .i64 a3).wf = true ∧ (Lit.int .i64 a4).wf = true) := by
  obtain ⟨cs, rfl, hsz⟩ := okWide_struct hs hv
  obtain ⟨c0, c1, c2, c3, c4, rfl⟩ := array5 (hsz.trans hC)
  obtain ⟨fuel, hf⟩ := h
  obtain ⟨xs, n, _, hx, hl, hlen, hfs⟩ := DataW.trod_struct hs hf
  obtain ⟨o0, k0⟩ := hone_of hone 0 f0 rfl
  obtain ⟨o1, k1⟩ := hone_of hone 1 f1 rfl
  obtain ⟨o2, k2⟩ := hone_of hone 2 f2 rfl
  obtain ⟨o3, k3⟩ := hone_of hone 3 f3 rfl
  obtain ⟨o4, k4⟩ := hone_of hone 4 f4 rfl
  match xs, hlen with
  | [y0, y1, y2, y3, y4], _ =>
    have g0 : DataW.trod enc P w base spare held n f0.type [c0] = some y0 := by simpa [Value.cells, o0, k0] using hfs 0 f0 rfl
    have g1 : DataW.trod enc P w base spare held n f1.type [c1] = some y1 := by simpa [Value.cells, o1, k1] using hfs 1 f1 rfl
    have g2 : DataW.trod enc P w base spare held n f2.type [c2] = some y2 := by simpa [Value.cells, o2, k2] using hfs 2 f2 rfl
    have g3 : DataW.trod enc P w base spare held n f3.type [c3] = some y3 := by simpa [Value.cells, o3, k3] using hfs 3 f3 rfl
    have g4 : DataW.trod enc P w base spare held n f4.type [c4] = some y4 := by simpa [Value.cells, o4, k4] using hfs 4 f4 rfl
    rw [q0] at g0; rw [q1] at g1; rw [q2] at g2; rw [q3] at g3; rw [q4] at g4
    obtain ⟨a0, e0, x0, w0⟩ := DataW.trod_int hq g0
    obtain ⟨a1, e1, x1, w1⟩ := DataW.trod_int hq g1
    obtain ⟨a2, e2, x2, w2⟩ := DataW.trod_int hq g2
    obtain ⟨a3, e3, x3, w3⟩ := DataW.trod_int hq g3
    obtain ⟨a4, e4, x4, w4⟩ := DataW.trod_int hq g4
    injection e0 with e0; injection e1 with e1; injection e2 with e2; injection e3 with e3; injection e4 with e4
    subst e0 e1 e2 e3 e4 x0 x1 x2 x3 x4
    simp only [Prod.mk.injEq] at hx
    exact ⟨a0, a1, a2, a3, a4, rfl, by simpa using hx.1, by simpa using hx.2, w0, w1, w2, w3, w4⟩
theorem shut_five {t q : TypeId} {f0 f1 f2 f3 f4 : Field} {a0 a1 a2 a3 a4 : Int} (hs : P.underlying t = some (.struct #[f0, f1, f2, f3, f4])) (hone : oneCellFields P #[f0, f1, f2, f3, f4] = true) (hC : P.cellsOf t = 5)
    (q0 : f0.type = q) (q1 : f1.type = q) (q2 : f2.type = q) (q3 : f3.type = q) (q4 : f4.type = q) (hq : P.underlying q = some (.int .i64))
    (hw : (Lit.int .i64 a0).wf = true ∧ (Lit.int .i64 a1).wf = true ∧ (Lit.int .i64 a2).wf = true ∧ (Lit.int .i64 a3).wf = true ∧ (Lit.int .i64 a4).wf = true) :
    DataW.Trod enc P w base spare held t (pv a0 a1 a2 a3 a4) (.agg [.lit (.int .i64 a0), .lit (.int .i64 a1), .lit (.int .i64 a2), .lit (.int .i64 a3), .lit (.int .i64 a4)]) [] := by
  obtain ⟨w0, w1, w2, w3, w4⟩ := hw
  obtain ⟨o0, k0⟩ := hone_of hone 0 f0 rfl
  obtain ⟨o1, k1⟩ := hone_of hone 1 f1 rfl
  obtain ⟨o2, k2⟩ := hone_of hone 2 f2 rfl
  obtain ⟨o3, k3⟩ := hone_of hone 3 f3 rfl
  obtain ⟨o4, k4⟩ := hone_of hone 4 f4 rfl
  rw [q0] at k0; rw [q1] at k1; rw [q2] at k2; rw [q3] at k3; rw [q4] at k4
  have := trod_struct_mk (enc := enc) (w := w) (base := base) (spare := spare) (held := held) (n := 1) (cs := [.int .i64 a0, .int .i64 a1, .int .i64 a2, .int .i64 a3, .int .i64 a4]) (xs := [(.lit (.int .i64 a0), []), (.lit (.int .i64 a1), []), (.lit (.int .i64 a2), []), (.lit (.int .i64 a3), []), (.lit (.int .i64 a4), [])]) hs (by simp [hC])
    (by simp [DataW.trod, q0, q1, q2, q3, q4, hq, o0, o1, o2, o3, o4, k0, w0, w1, w2, w3, w4])
  exact ⟨2, by simpa [Value.cells] using this⟩
end
end Gw
end
section
/- What the definition's own Good, Each (package shamrockref10) do. -/
namespace Go.Proofs.Ytgikgnhpplmljaa
open Go.RowKit Go.Shelf Gw Pol
def inB (x : Int) : Bool := decide (0 ≤ x ∧ x ≤ 255)
def sel (N T K E : Int) : Nat → Int
  | 0 => N
  | 1 => T
  | 2 => K
  | _ => E
/-- May params be? -/
def goodB (N T K E R : Int) : Bool := decide ((0 ≤ N ∧ N ≤ 255) ∧ (0 ≤ T ∧ T ≤ 255) ∧ (0 ≤ K ∧ K ≤ 255) ∧ (0 ≤ E ∧ E ≤ 255) ∧ 1 ≤ T ∧ 1 ≤ K ∧ (1 ≤ R ∧ R ≤ 512) ∧ T + K + 2 * E ≤ N ∧ N + K ≤ 255)
theorem goodB_no {N T K E R : Int} {j : Nat} (hj : j < 4) (h : inB (sel N T K E j) = false) : goodB N T K E R = false := by
  have h' := of_decide_eq_false h
  refine decide_eq_false fun hg => h' ?_
  match j, hj with
  | 0, _ => exact hg.1
  | 1, _ => exact hg.2.1
  | 2, _ => exact hg.2.2.1
  | 3, _ => exact hg.2.2.2.1
set_option maxRecDepth 100000 in
set_option maxHeartbeats 1000000 in
theorem rgood_any (N T K E R : Int) (w : World) :
    Calls Try.prog 20 #[pv N T K E R] w fun e w' => e = .returned (.bool (goodB N T K E R)) ∧ Below w.heap.size w w' := by
  go_enter Try.func20, Try.ntmps20
  go_wp2
  go_loop [15] (fun i => ∃ q : Nat, q ≤ 4 ∧ i = .int .i64 (q : Int) ∧ ∀ j, j < q → inB (sel N T K E j) = true) (fun i => 4 - (intOf i).toNat)
  case atStart => exact ⟨0, Nat.zero_le _, rfl, fun j hj => by omega⟩
  case round =>
    obtain ⟨q, hq, rfl, hall⟩ := hrel
    by_cases hq0 : q = 0
    · obtain rfl : q = 0 := by omega
      by_cases hx : 0 ≤ N ∧ N ≤ 255
      · have HA := Lib.hid (show ∀ j, j < 1 → inB (sel N T K E j) = true from fun j hj => by
          by_cases e : j = 0
          · subst e; exact decide_eq_true hx
          · exact hall j (by omega))
        clear hall
        obtain ⟨x1, x2⟩ := hx
        go_wp2
        go_round
        case rel => exact ⟨1, by omega, by go_num, HA.out⟩
        case measure => simp [intOf]
      · have HF := Lib.hid (goodB_no (N := N) (T := T) (K := K) (E := E) (R := R) (j := 0) (by omega) (decide_eq_false hx))
        clear hall
        have hx' : N < 0 ∨ 255 < N := by omega
        clear hx
        rcases hx' with hx | hx
        · go_wp2
          go_ret
          exact ⟨by rw [HF.out]; rfl, ((Below.refl _ w).alloc (Nat.le_refl _) _).alloc (by simp) _⟩
        · go_wp2
          go_ret
          exact ⟨by rw [HF.out]; rfl, ((Below.refl _ w).alloc (Nat.le_refl _) _).alloc (by simp) _⟩
    by_cases hq1 : q = 1
    · obtain rfl : q = 1 := by omega
      by_cases hx : 0 ≤ T ∧ T ≤ 255
      · have HA := Lib.hid (show ∀ j, j < 2 → inB (sel N T K E j) = true from fun j hj => by
          by_cases e : j = 1
          · subst e; exact decide_eq_true hx
          · exact hall j (by omega))
        clear hall
        obtain ⟨x1, x2⟩ := hx
        go_wp2
        go_round
        case rel => exact ⟨2, by omega, by go_num, HA.out⟩
        case measure => simp [intOf]
      · have HF := Lib.hid (goodB_no (N := N) (T := T) (K := K) (E := E) (R := R) (j := 1) (by omega) (decide_eq_false hx))
        clear hall
        have hx' : T < 0 ∨ 255 < T := by omega
        clear hx
        rcases hx' with hx | hx
        · go_wp2
          go_ret
          exact ⟨by rw [HF.out]; rfl, ((Below.refl _ w).alloc (Nat.le_refl _) _).alloc (by simp) _⟩
        · go_wp2
          go_ret
          exact ⟨by rw [HF.out]; rfl, ((Below.refl _ w).alloc (Nat.le_refl _) _).alloc (by simp) _⟩
    by_cases hq2 : q = 2
    · obtain rfl : q = 2 := by omega
      by_cases hx : 0 ≤ K ∧ K ≤ 255
      · have HA := Lib.hid (show ∀ j, j < 3 → inB (sel N T K E j) = true from fun j hj => by
          by_cases e : j = 2
          · subst e; exact decide_eq_true hx
          · exact hall j (by omega))
        clear hall
        obtain ⟨x1, x2⟩ := hx
        go_wp2
        go_round
        case rel => exact ⟨3, by omega, by go_num, HA.out⟩
        case measure => simp [intOf]
      · have HF := Lib.hid (goodB_no (N := N) (T := T) (K := K) (E := E) (R := R) (j := 2) (by omega) (decide_eq_false hx))
        clear hall
        have hx' : K < 0 ∨ 255 < K := by omega
        clear hx
        rcases hx' with hx | hx
        · go_wp2
          go_ret
          exact ⟨by rw [HF.out]; rfl, ((Below.refl _ w).alloc (Nat.le_refl _) _).alloc (by simp) _⟩
        · go_wp2
          go_ret
          exact ⟨by rw [HF.out]; rfl, ((Below.refl _ w).alloc (Nat.le_refl _) _).alloc (by simp) _⟩
    by_cases hq3 : q = 3
    · obtain rfl : q = 3 := by omega
      by_cases hx : 0 ≤ E ∧ E ≤ 255
      · have HA := Lib.hid (show ∀ j, j < 4 → inB (sel N T K E j) = true from fun j hj => by
          by_cases e : j = 3
          · subst e; exact decide_eq_true hx
          · exact hall j (by omega))
        clear hall
        obtain ⟨x1, x2⟩ := hx
        go_wp2
        go_round
        case rel => exact ⟨4, by omega, by go_num, HA.out⟩
        case measure => simp [intOf]
      · have HF := Lib.hid (goodB_no (N := N) (T := T) (K := K) (E := E) (R := R) (j := 3) (by omega) (decide_eq_false hx))
        clear hall
        have hx' : E < 0 ∨ 255 < E := by omega
        clear hx
        rcases hx' with hx | hx
        · go_wp2
          go_ret
          exact ⟨by rw [HF.out]; rfl, ((Below.refl _ w).alloc (Nat.le_refl _) _).alloc (by simp) _⟩
        · go_wp2
          go_ret
          exact ⟨by rw [HF.out]; rfl, ((Below.refl _ w).alloc (Nat.le_refl _) _).alloc (by simp) _⟩
    obtain rfl : q = 4 := by omega
    obtain ⟨n1, n2⟩ : 0 ≤ N ∧ N ≤ 255 := of_decide_eq_true (hall 0 (by omega))
    obtain ⟨t1, t2⟩ : 0 ≤ T ∧ T ≤ 255 := of_decide_eq_true (hall 1 (by omega))
    obtain ⟨k1, k2⟩ : 0 ≤ K ∧ K ≤ 255 := of_decide_eq_true (hall 2 (by omega))
    obtain ⟨e1, e2⟩ : 0 ≤ E ∧ E ≤ 255 := of_decide_eq_true (hall 3 (by omega))
    clear hall
    go_wp2
    all_goals
      go_ret
      refine ⟨?_, ((Below.refl _ w).alloc (Nat.le_refl _) _).alloc (by simp) _⟩
      first
        | (rw [show goodB N T K E R = false from decide_eq_false (by omega)]; rfl)
        | (rw [show goodB N T K E R = decide (N + K ≤ 255) from by unfold goodB; rw [decide_eq_decide]; omega]; rfl)
/-- What follows of it. -/
theorem goodB_nat {N T K E R : Int} (h : goodB N T K E R = true) : ∃ n t k e r : Nat, N = (n : Int) ∧ T = (t : Int) ∧ K = (k : Int) ∧ E = (e : Int) ∧ R = (r : Int) ∧ 1 ≤ t ∧ 1 ≤ k ∧ 1 ≤ r ∧ r ≤ 512 ∧ t + k + 2 * e ≤ n ∧ n + k ≤ 255 := by
  have hg := of_decide_eq_true h
  exact ⟨N.toNat, T.toNat, K.toNat, E.toNat, R.toNat, by omega, by omega, by omega, by omega, by omega, by omega, by omega, by omega, by omega, by omega, by omega⟩
/-- Random bytes of a column. -/
def eachN (t k : Nat) (kind : Int) : Nat := if kind = 1 ∨ kind = 2 then t else if kind = 3 then t + k - 1 else if kind = 4 then t + k else 0
theorem reach_any (N : Int) (t k : Nat) (E R kind : Int) (ht : 1 ≤ t) (htk : t + k ≤ 255) (w : World) :
    Calls Try.prog 65 #[pv N t k E R, .int .i64 kind] w fun e w' => e = .returned (.int .i64 (eachN t k kind : Int)) ∧ Below w.heap.size w w' := by
  have hb : Below w.heap.size w (w.alloc (.cells #[.int .i64 N, .int .i64 (t : Int), .int .i64 (k : Int), .int .i64 E, .int .i64 R] 23)) := (Below.refl _ w).alloc (Nat.le_refl _) _
  by_cases h1 : kind = 1
  · have HE := Lib.hid (show eachN t k kind = t by unfold eachN; rw [if_pos (.inl h1)])
    subst h1
    go_enter Try.func65, Try.ntmps65
    go_wp2
    go_ret
    exact ⟨by rw [HE.out]; rfl, hb⟩
  by_cases h2 : kind = 2
  · have HE := Lib.hid (show eachN t k kind = t by unfold eachN; rw [if_pos (.inr h2)])
    subst h2
    go_enter Try.func65, Try.ntmps65
    go_wp2
    go_ret
    exact ⟨by rw [HE.out]; rfl, hb⟩
  by_cases h3 : kind = 3
  · have HE := Lib.hid (show eachN t k kind = t + k - 1 by unfold eachN; rw [if_neg (by omega), if_pos h3])
    subst h3
    go_enter Try.func65, Try.ntmps65
    go_wp2
    go_ret
    refine ⟨?_, hb⟩
    rw [HE.out]
    go_num
  by_cases h4 : kind = 4
  · have HE := Lib.hid (show eachN t k kind = t + k by unfold eachN; rw [if_neg (by omega), if_neg h3, if_pos h4])
    subst h4
    go_enter Try.func65, Try.ntmps65
    go_wp2
    go_ret
    refine ⟨?_, hb⟩
    rw [HE.out]
    go_num
  have HE := Lib.hid (show eachN t k kind = 0 by unfold eachN; rw [if_neg (by omega), if_neg h3, if_neg h4])
  have b1 : (kind == 1) = false := beq_eq_false_iff_ne.2 h1
  have b2 : (kind == 2) = false := beq_eq_false_iff_ne.2 h2
  have b3 : (kind == 3) = false := beq_eq_false_iff_ne.2 h3
  have b4 : (kind == 4) = false := beq_eq_false_iff_ne.2 h4
  go_enter Try.func65, Try.ntmps65
  go_wp2
  go_ret
  exact ⟨by rw [HE.out]; rfl, hb⟩
end Go.Proofs.Ytgikgnhpplmljaa
end
section
/- What the definition's own Through (package shamrockref01) does: the polynomial through points, in memory of its own. -/
namespace Go.Proofs.Ytgikgnhpplmljaa
open Go.RowKit Go.Shelf Gw Pol

theorem rroots' (A : Option Addr) (c n : Nat) (xs : List Nat) (w : World) (hn : n = xs.length) (hI : In w w.heap.size A c xs) (hcm : xs.length ≤ 70368744177664) :
    Calls Try.prog 46 #[.slice A n c] w fun e w' => ∃ A2 c2, e = .returned (.slice A2 (rt xs).length c2) ∧ Gw.Own w' w.heap.size 5 A2 c2 (rt xs) ∧ Below w.heap.size w w' := by
  subst hn; exact rroots_any A c xs w hI hcm
theorem erase_eq {xs : List Nat} {k k1 : Nat} (_hk : k < xs.length) (h : k1 = k + 1) : xs.take k ++ xs.drop k1 = xs.eraseIdx k := by
  subst h; rw [List.eraseIdx_eq_take_drop_succ]
theorem thrTo_len {xs : List Nat} (ys : List Nat) {k : Nat} (hk : k ≤ xs.length) : (thrTo xs ys k).length ≤ xs.length := by
  cases k with
  | zero => exact Nat.zero_le _
  | succ k => exact Dg.tr (Dg.add (thrTo_dg ys (by omega)) (lag_dg ys (by omega)))
theorem lag_dg' {xs : List Nat} (ys : List Nat) {i : Nat} (hi : i < xs.length) : Dg (mul (rt (xs.eraseIdx i)) [lagc xs ys i]) xs.length := fun j hj => by
  have := lag_dg ys hi j hj
  unfold lag at this
  rwa [co_tr] at this
def ThrRel (w : World) (xs ys : List Nat) (v i : Value) (wr : World) : Prop :=
  ∃ (k n : Nat) (A : Option Addr) (c : Nat), v = .slice A n c ∧ n = (thrTo xs ys k).length ∧ i = .int .i64 (k : Int) ∧ k ≤ xs.length ∧ Gw.Own wr w.heap.size 5 A c (thrTo xs ys k) ∧ Below w.heap.size w wr

set_option maxRecDepth 100000 in
set_option maxHeartbeats 1000000 in
theorem rthrough_any (A A' : Option Addr) (c c' : Nat) (xs ys : List Nat) (w : World) (hx : In w w.heap.size A c xs) (hy : In w w.heap.size A' c' ys) (hl : xs.length ≤ ys.length) (hcm : xs.length ≤ 70368744177664) :
    Calls Try.prog 49 #[.slice A xs.length c, .slice A' ys.length c'] w fun e w' => ∃ A2 c2, e = .returned (.slice A2 (thr xs ys).length c2) ∧ Gw.Own w' w.heap.size 5 A2 c2 (thr xs ys) ∧ Below w.heap.size w w' := by
  obtain ⟨i0, hi0, hz0, hz1, hz2⟩ := info_parts byte_info
  go_enter Try.func49, Try.ntmps49
  go_wp2
  go_loopw [5, 6] (ThrRel w xs ys) (fun _ i _ => xs.length - (intOf i).toNat)
  case atStart => exact ⟨0, 0, none, 0, rfl, rfl, rfl, Nat.zero_le _, Own.none_ _ _ _, Below.refl _ _⟩
  case round =>
    obtain ⟨k, n, Ao, co', rfl, hn, rfl, hk, hown, hbel⟩ := hrel
    have hbs := hbel.size
    have HN := Lib.hid hn
    clear hn
    by_cases hkp : k < xs.length
    · obtain ⟨x, b, off, hx1, hxb, rfl, hb, hcell⟩ := (hx.below hbel).sl.at_ hkp
      obtain ⟨y, b2, off2, hy1, hyb, rfl, hb2, hcell2⟩ := (hy.below hbel).sl.at_ (k := k) (by omega)
      have hky : k < ys.length := by omega
      have HX := Lib.hid (co_of hx1)
      have HY := Lib.hid (co_of hy1)
      clear hx1 hy1
      have hxcap := hx.cap
      have hsx := (hx.below hbel).sl
      obtain ⟨k1, hk1⟩ : ∃ k1 : Nat, k1 = k + 1 := ⟨_, rfl⟩
      have hw1 : IntKind.i64.wrap ((k : Int) + 1) = (k1 : Int) := by rw [IntKind.wrap_i64]; omega
      have hkc : k ≤ c := by omega
      have hk1x : k1 ≤ xs.length := by omega
      have HK1 := Lib.hid hk1
      by_cases hcap' : c = k1
      · obtain rfl := hcap'
        have hlx : xs.length = c := by omega
        have HLX := Lib.hid hlx
        have hdrop := Lib.hid (show xs.drop c = [] from List.drop_eq_nil_of_le (by omega))
        clear hk1 hlx
        have hcap' : True := trivial
        have hl0 : xs.length - c = 0 := by omega
        go_wp2
        go_region_law (first | (refine step_app rfl (.tmp 16) (.tmp 19) 36 rfl wr.heap.size 5 i0 _ Try.underlying36 hi0 hz0 hz1 hz2 rfl (some ⟨wr.heap.size, 0, none⟩) 0 0 [] rfl rfl (Own.lit0 wr wr.heap.size 5 (Nat.le_refl _)) w.heap.size (some ⟨b, off, none⟩) k c (xs.take k) rfl (by simp; omega) (fun h => by cases h) ((hsx.take k).alloc hbs _) (by simp; omega) (by simp) ?_; intro A2 c2 w2 hown2 hgr2; have hb2' := below_lit (Below.refl wr.heap.size wr) (Nat.le_refl _) hgr2) | (refine step_app rfl (.tmp 20) (.tmp 24) 36 rfl wr.heap.size 5 i0 _ Try.underlying36 hi0 hz0 hz1 hz2 rfl A2 k c2 (xs.take k) rfl (by simp; omega) hown2 w.heap.size (some ⟨b, off, none⟩) 0 0 [] rfl rfl (fun h => by cases h) Sl.nil (by simp; omega) hb2'.size ?_; intro A3 c3 w3 hown3 hgr3))
        have hoe := hown3
        rw [← hdrop.out, erase_eq hkp HK1.out] at hoe
        have hbw3 : Below wr.heap.size wr w3 := below_app0 hb2' hb2'.size hown2 hgr3
        have HE := Lib.hid hoe
        clear hown2 hgr2 hown3 hgr3 hoe hsx hw1 hcap'
        go_wp2_with fail
        refine (rroots' A3 c3 _ (xs.eraseIdx k) _ (by rw [List.length_eraseIdx_of_lt hkp]; have := HK1.out; have := HLX.out; omega) HE.out.inn (by rw [List.length_eraseIdx_of_lt hkp]; omega)).mono ?_
        rintro e w4 ⟨A4, c4, rfl, hown4, hb4⟩
        have hbw4 : Below wr.heap.size wr w4 := hbw3.trans (hb4.mono hbw3.size)
        have hcx4 := (hbw4.cell (p := ⟨b, off + k, none⟩) (by show b < _; omega)).trans hcell
        have hcy4 := (hbw4.cell (p := ⟨b2, off2 + k, none⟩) (by show b2 < _; omega)).trans hcell2
        have hb4s := hbw4.size
        have hrl := (rt_top (xs.eraseIdx k)).1
        rw [List.length_eraseIdx_of_lt hkp] at hrl
        have hrc : (rt (xs.eraseIdx k)).length ≤ 70368744177664 := by omega
        have hrc2 : (rt (xs.eraseIdx k)).length ≤ 140737488355328 := by omega
        have HP := Lib.hid hown4.inn
        have HO4 := Lib.hid hown4
        clear hb4 hbw3 hrl hown4 hcell hcell2
        go_wp2
        go_quiet ((first | (go_at_call 43; exact Calls.quiet_of_same (reval_same A4 c4 (rt (xs.eraseIdx k)) x hxb _ w4.heap.size (HP.out.drewN _) hrc2)) | (go_at_call 68; exact Calls.quiet_of_same (rinv_same _ (ev_lt (rt_bb _) _) _)) | (go_at_call 64; exact Calls.quiet_of_same (rmul_still _ _ hyb (Gf.inv_lt _) _))))
        have HC := Lib.hid (show Gf.gm y (Gf.inv (ev x (rt (xs.eraseIdx k)))) = lagc xs ys k by unfold lagc; rw [HX.out, HY.out])
        go_wp2_with fail
        rw [HC.out]
        refine (rtimes' A4 (some ⟨w4.heap.size, 0, none⟩) c4 1 _ 1 (rt (xs.eraseIdx k)) [lagc xs ys k] _ rfl rfl (((HO4.out.drewN nq).alloc _).inn) ⟨(Sl.one (w4.drewN nq) 5 _ (lagc_lt _ _ _)).more (by simp), by simp, fun h => by cases h⟩ (by simp; omega)).mono ?_
        rintro e w5 ⟨A5, c5, rfl, hown5, hb5⟩
        have hbw5 : Below wr.heap.size wr w5 := ((Gw.Below.drewN hbw4 nq).alloc (by simpa using hb4s) (.cells #[.int .u8 (lagc xs ys k : Int)] 5)).trans (hb5.mono (by simp; omega))
        have hsum := hown.kept hbw5
        have hlagl : (tr (mul (rt (xs.eraseIdx k)) [lagc xs ys k])).length ≤ 70368744177664 := Nat.le_trans (Dg.tr (lag_dg' ys hkp)) hcm
        have hthrl : (thrTo xs ys k).length ≤ 70368744177664 := Nat.le_trans (thrTo_len ys hk) hcm
        clear hbw4 hcx4 hcy4 hb5 HP HO4
        have HS := Lib.hid hsum
        have H5 := Lib.hid hown5
        clear hsum hown5
        go_wp2_with fail
        refine (radd' Ao A5 co' c5 n _ (thrTo xs ys k) (lag xs ys k) _ HN.out rfl HS.out.inn H5.out.inn (by show _ + (tr (mul _ _)).length ≤ _; omega)).mono ?_
        rintro e w6 ⟨A6, c6, rfl, hown6, hb6⟩
        have hb5s := hbw5.size
        have hown7 := hown6.base (base' := w.heap.size) (by omega)
        have hb7 := hbel.trans ((hbw5.trans (hb6.mono hb5s)).mono hbs)
        clear hbw5 hb6 hown6
        go_wp2
        go_roundw
        case rel => exact ⟨k + 1, _, A6, c6, rfl, rfl, by go_num, by omega, hown7, hb7⟩
        case measure => simp [intOf]; omega
      · have hk1c : k1 ≤ c := by omega
        clear hk1
        go_wp2
        go_region_law (first | (refine step_app rfl (.tmp 16) (.tmp 19) 36 rfl wr.heap.size 5 i0 _ Try.underlying36 hi0 hz0 hz1 hz2 rfl (some ⟨wr.heap.size, 0, none⟩) 0 0 [] rfl rfl (Own.lit0 wr wr.heap.size 5 (Nat.le_refl _)) w.heap.size (some ⟨b, off, none⟩) k c (xs.take k) rfl (by simp; omega) (fun h => by cases h) ((hsx.take k).alloc hbs _) (by simp; omega) (by simp) ?_; intro A2 c2 w2 hown2 hgr2; have hb2' := below_lit (Below.refl wr.heap.size wr) (Nat.le_refl _) hgr2) | (refine step_app rfl (.tmp 20) (.tmp 24) 36 rfl wr.heap.size 5 i0 _ Try.underlying36 hi0 hz0 hz1 hz2 rfl A2 k c2 (xs.take k) rfl (by simp; omega) hown2 w.heap.size (some ⟨b, off + k1, none⟩) (xs.length - k1) (c - k1) (xs.drop k1) rfl (by simp) (fun h => by cases h) (((hx.below hbel).sl.below (hb2'.mono hbs)).drop k1) (by simp; omega) hb2'.size ?_; intro A3 c3 w3 hown3 hgr3))
        have hoe := hown3
        rw [erase_eq hkp HK1.out] at hoe
        have hbw3 : Below wr.heap.size wr w3 := below_app0 hb2' hb2'.size hown2 hgr3
        have HE := Lib.hid hoe
        clear hown2 hgr2 hown3 hgr3 hoe hsx hw1 hcap'
        go_wp2_with fail
        refine (rroots' A3 c3 _ (xs.eraseIdx k) _ (by rw [List.length_eraseIdx_of_lt hkp]; have := HK1.out; omega) HE.out.inn (by rw [List.length_eraseIdx_of_lt hkp]; omega)).mono ?_
        rintro e w4 ⟨A4, c4, rfl, hown4, hb4⟩
        have hbw4 : Below wr.heap.size wr w4 := hbw3.trans (hb4.mono hbw3.size)
        have hcx4 := (hbw4.cell (p := ⟨b, off + k, none⟩) (by show b < _; omega)).trans hcell
        have hcy4 := (hbw4.cell (p := ⟨b2, off2 + k, none⟩) (by show b2 < _; omega)).trans hcell2
        have hb4s := hbw4.size
        have hrl := (rt_top (xs.eraseIdx k)).1
        rw [List.length_eraseIdx_of_lt hkp] at hrl
        have hrc : (rt (xs.eraseIdx k)).length ≤ 70368744177664 := by omega
        have hrc2 : (rt (xs.eraseIdx k)).length ≤ 140737488355328 := by omega
        have HP := Lib.hid hown4.inn
        have HO4 := Lib.hid hown4
        clear hb4 hbw3 hrl hown4 hcell hcell2
        go_wp2
        go_quiet ((first | (go_at_call 43; exact Calls.quiet_of_same (reval_same A4 c4 (rt (xs.eraseIdx k)) x hxb _ w4.heap.size (HP.out.drewN _) hrc2)) | (go_at_call 68; exact Calls.quiet_of_same (rinv_same _ (ev_lt (rt_bb _) _) _)) | (go_at_call 64; exact Calls.quiet_of_same (rmul_still _ _ hyb (Gf.inv_lt _) _))))
        have HC := Lib.hid (show Gf.gm y (Gf.inv (ev x (rt (xs.eraseIdx k)))) = lagc xs ys k by unfold lagc; rw [HX.out, HY.out])
        go_wp2_with fail
        rw [HC.out]
        refine (rtimes' A4 (some ⟨w4.heap.size, 0, none⟩) c4 1 _ 1 (rt (xs.eraseIdx k)) [lagc xs ys k] _ rfl rfl (((HO4.out.drewN nq).alloc _).inn) ⟨(Sl.one (w4.drewN nq) 5 _ (lagc_lt _ _ _)).more (by simp), by simp, fun h => by cases h⟩ (by simp; omega)).mono ?_
        rintro e w5 ⟨A5, c5, rfl, hown5, hb5⟩
        have hbw5 : Below wr.heap.size wr w5 := ((Gw.Below.drewN hbw4 nq).alloc (by simpa using hb4s) (.cells #[.int .u8 (lagc xs ys k : Int)] 5)).trans (hb5.mono (by simp; omega))
        have hsum := hown.kept hbw5
        have hlagl : (tr (mul (rt (xs.eraseIdx k)) [lagc xs ys k])).length ≤ 70368744177664 := Nat.le_trans (Dg.tr (lag_dg' ys hkp)) hcm
        have hthrl : (thrTo xs ys k).length ≤ 70368744177664 := Nat.le_trans (thrTo_len ys hk) hcm
        clear hbw4 hcx4 hcy4 hb5 HP HO4
        have HS := Lib.hid hsum
        have H5 := Lib.hid hown5
        clear hsum hown5
        go_wp2_with fail
        refine (radd' Ao A5 co' c5 n _ (thrTo xs ys k) (lag xs ys k) _ HN.out rfl HS.out.inn H5.out.inn (by show _ + (tr (mul _ _)).length ≤ _; omega)).mono ?_
        rintro e w6 ⟨A6, c6, rfl, hown6, hb6⟩
        have hb5s := hbw5.size
        have hown7 := hown6.base (base' := w.heap.size) (by omega)
        have hb7 := hbel.trans ((hbw5.trans (hb6.mono hb5s)).mono hbs)
        clear hbw5 hb6 hown6
        go_wp2
        go_roundw
        case rel => exact ⟨k + 1, _, A6, c6, rfl, rfl, by go_num, by omega, hown7, hb7⟩
        case measure => simp [intOf]; omega
    · obtain rfl : k = xs.length := by omega
      go_wp2_with fail
      refine (trim' Ao co' n (thrTo xs ys xs.length) wr wr.heap.size HN.out hown.inn (Nat.le_refl _) (Nat.le_trans (thrTo_len ys (Nat.le_refl _)) (by omega))).mono ?_
      rintro e w' ⟨A2, c2, rfl, hown2, hb2⟩
      go_wp2
      go_ret
      exact ⟨A2, c2, rfl, hown2.base hbs, hbel.trans (hb2.mono hbs)⟩
end Go.Proofs.Ytgikgnhpplmljaa
end
section
/- What the definition's own Secrets (package shamrockref10) do. -/
namespace Go.Proofs.Ytgikgnhpplmljaa
open Go.RowKit Go.Shelf Gw Pol
/-- The points of secrets. -/
def secL (n k : Nat) : List Nat := (List.range k).map fun i => n + 1 + i
theorem secL_len (n k : Nat) : (secL n k).length = k := by simp [secL]
theorem secL_succ (n k : Nat) : secL n (k + 1) = secL n k ++ [n + 1 + k] := by simp [secL, List.range_succ]
theorem secL_bb {n k : Nat} (h : n + k ≤ 255) : BB (secL n k) := fun x hx => by
  obtain ⟨i, hi, rfl⟩ := List.mem_map.1 hx
  have := List.mem_range.1 hi
  omega
def SecRel (w : World) (n k : Nat) (v i : Value) (wr : World) : Prop :=
  ∃ (q c : Nat) (A : Option Addr), q ≤ k ∧ v = .slice A q c ∧ i = .int .i64 (q : Int) ∧ Gw.Own wr (w.heap.size + 1) 5 A c (secL n q) ∧ Below w.heap.size w wr ∧ w.heap.size + 1 ≤ wr.heap.size ∧
    wr.cell? ⟨w.heap.size, 0, none⟩ = some (.int .i64 (n : Int)) ∧ wr.cell? ⟨w.heap.size, 2, none⟩ = some (.int .i64 (k : Int))
set_option maxRecDepth 100000 in
set_option maxHeartbeats 1000000 in
theorem rsec_any (n k : Nat) (T E R : Int) (h : n + k ≤ 255) (w : World) :
    Calls Try.prog 47 #[pv n T k E R] w fun e w' => ∃ A c, e = .returned (.slice A k c) ∧ Gw.Own w' w.heap.size 5 A c (secL n k) ∧ Below w.heap.size w w' := by
  obtain ⟨i0, hi0, hz0, hz1, hz2⟩ := info_parts byte_info
  go_enter Try.func47, Try.ntmps47
  go_wp2
  go_loopw [3, 4] (SecRel w n k) (fun _ i _ => k - (intOf i).toNat)
  case atStart => exact ⟨0, 0, none, Nat.zero_le _, rfl, rfl, Own.none_ _ _ _, (Below.refl _ w).alloc (Nat.le_refl _) _, by simp, World.cell?_alloc_new w _ _ 0, World.cell?_alloc_new w _ _ 2⟩
  case round =>
    obtain ⟨q, c, A, hq, rfl, rfl, hown, hbel, hws, c0, c2⟩ := hrel
    by_cases hlt : q < k
    · obtain ⟨x, hx⟩ : ∃ x, x = n + 1 + q := ⟨_, rfl⟩
      have e1 : (n : Int) + 1 + (q : Int) = (x : Int) := by omega
      have hxb : x < 256 := by omega
      have HX := Lib.hid hx
      have HLE := Lib.hid (secL_len n q)
      have HOW := Lib.hid (hown.alloc (.cells #[.int .u8 (x : Int)] 5))
      have HSL := Lib.hid (Sl.one wr 5 x hxb)
      have HOWN := Lib.hid hown
      have HK0 := Lib.hid c0
      clear hx hown
      go_wp2_with (first | (at_builtin; refine wpList_app rfl (.tmp 11) (.tmp 18) 36 rfl (w.heap.size + 1) 5 i0 _ Try.underlying36 hi0 hz0 hz1 hz2 rfl A q c (secL n q) rfl HLE.out.symm HOW.out (wr.heap.size + 1) (some ⟨wr.heap.size, 0, none⟩) 1 1 [x] rfl rfl (fun h => by cases h) HSL.out (by rw [HLE.out]; simp; omega) (by rw [World.size_alloc]; omega) ?_; intro A2 cN w2 hown2 hgr2) | fail)
      have HB2 := Lib.hid (below_app (base := w.heap.size) hbel (by omega) (HOWN.out.base (by omega)) hgr2)
      have hbx : Below (w.heap.size + 1) wr w2 := below_app (Below.refl _ wr) hws HOWN.out hgr2
      have HC0 := Lib.hid ((hbx.cell (p := ⟨w.heap.size, 0, none⟩) (by show w.heap.size < _; omega)).trans HK0.out)
      have HC2 := Lib.hid ((hbx.cell (p := ⟨w.heap.size, 2, none⟩) (by show w.heap.size < _; omega)).trans c2)
      have HWS := Lib.hid (Nat.le_trans hws hbx.size)
      rw [HX.out, ← secL_succ] at hown2
      have HO2 := Lib.hid hown2
      clear hown2 hgr2 hbx c0 c2
      go_roundw
      case rel => exact ⟨q + 1, cN, A2, by omega, by rw [show (secL n q).length + 1 = q + 1 by rw [HLE.out]], by go_num, HO2.out, HB2.out, HWS.out, HC0.out, HC2.out⟩
      case measure => simp [intOf]; omega
    · obtain rfl : q = k := by omega
      have HO := Lib.hid hown
      clear hown
      go_wp2
      go_ret
      exact ⟨A, c, rfl, HO.out.base (by omega), hbel⟩
/-- A literal of some bytes. -/
theorem own_lit (w : World) (e : TypeId) (l : List Nat) (cs : Array Value) (hc : cs = (bys l).toArray) (hb : BB l) (hl : l.length ≤ 140737488355328) (base : Nat) (hbase : base ≤ w.heap.size) (b : Nat) (hbk : b = w.heap.size) :
    Gw.Own (w.alloc (.cells cs e)) base e (some ⟨b, 0, none⟩) l.length l := by
  subst hc hbk
  refine ⟨⟨by rw [bys_len, Nat.mul_one], .inr ⟨w.heap.size, l.length, _, rfl, hbase, World.alloc_heap_new w _, Nat.le_refl _, by simp only [maxLen]; omega, by simp [bys_len], ?_⟩⟩, hb⟩
  rw [Nat.mul_one]
  exact List.take_of_length_le (by simp [bys_len])
end Go.Proofs.Ytgikgnhpplmljaa
end
