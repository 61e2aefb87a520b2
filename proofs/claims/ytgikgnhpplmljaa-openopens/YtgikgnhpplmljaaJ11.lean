import Derived.RangeFuncNested
import Derived.RangeFuncBound
import Derived.RangeFuncCalls
import Derived.RangeFuncLeaves
import Derived.Test.YtgikgnhpplmljaaJ1
import Derived.Test.YtgikgnhpplmljaaJ2
import Derived.Test.YtgikgnhpplmljaaJ3
import Derived.Test.YtgikgnhpplmljaaJ4
import Derived.Test.YtgikgnhpplmljaaJ5
import Derived.Test.YtgikgnhpplmljaaJ6
import Derived.Test.YtgikgnhpplmljaaJ10
section
/- What the definition's own Agreed (package shamrockref01) does: of all ways to pick d + 1 points the first whose polynomial has so many of the values; or that there is none. -/
namespace Gw
theorem Own.row1 {w : Go.World} {base n : Nat} {e : Go.TypeId} {A : Option Go.Addr} {c : Nat} {l : List Nat} (h : Own w base e A c l) (hn : n = l.length) : w.ownsRow base e 1 (.slice A n c) n (bys l) := by subst hn; exact h.1
end Gw
namespace Go.Proofs.Ytgikgnhpplmljaa
open Go.RowKit Go.Shelf Gw Pol

/-- What Agreed answers. -/
def AgAns (s : Nat) (xs ys : List Nat) (m : Nat) (w : World) (e : Ending) (w' : World) : Prop :=
  ((∃ (r : List Nat) (A : Option Addr) (c : Nat), r ∈ pk s xs.length ∧ e = .returned (.tuple #[.slice A (pthr xs ys r).length c, .bool true]) ∧ m ≤ agrTo (pthr xs ys r) xs ys xs.length ∧ Gw.Own w' w.heap.size 5 A c (pthr xs ys r)) ∨
    (e = .returned (.tuple #[.slice none 0 0, .bool false]) ∧ ∀ r ∈ pk s xs.length, agrTo (pthr xs ys r) xs ys xs.length < m)) ∧ Below w.heap.size w w'
def AgO (w1 : World) (xs ys : List Nat) (m : Nat) (R : List Jr) (i : Value) (wr : World) : Prop :=
  ∃ k : Nat, k ≤ R.length ∧ i = .int .i64 (k : Int) ∧ (∀ r ∈ (R.take k).map Jr.l, agrTo (pthr xs ys r) xs ys xs.length < m) ∧ Below w1.heap.size w1 wr
def AgI (w1 : World) (xs ys r : List Nat) (a b i : Value) (wr : World) : Prop :=
  ∃ (j : Nat) (Aa Ab : Option Addr) (ca cb : Nat), j ≤ r.length ∧ i = .int .i64 (j : Int) ∧ a = .slice Aa j ca ∧ b = .slice Ab j cb ∧ AB w1.heap.size 5 wr Aa ca (pts xs (r.take j)) Ab cb (pts ys (r.take j)) ∧ Below w1.heap.size w1 wr
theorem pts_take {l r : List Nat} {j x : Nat} (hx : r[j]? = some x) : pts l (r.take (j + 1)) = pts l (r.take j) ++ [co l x] := by
  unfold pts; rw [← take_snoc hx, List.map_append]; rfl

set_option maxRecDepth 100000 in
set_option maxHeartbeats 8000000 in
theorem ragreed_any (A A' : Option Addr) (c c' : Nat) (xs ys : List Nat) (D m : Nat) (w : World) (hI : In w w.heap.size A c xs) (hI' : In w w.heap.size A' c' ys) (he : xs.length = ys.length) (hl : xs.length ≤ 20) (hD : D ≤ 255) :
    Calls Try.prog 34 #[.slice A xs.length c, .slice A' ys.length c', .int .i64 (D : Int), .int .i64 (m : Int)] w (AgAns (D + 1) xs ys m w) := by
  obtain ⟨i0, hi0, hz0, hz1, hz2⟩ := info_parts pbyte_info
  have hcap := hI.cap
  have hcap' := hI'.cap
  have hD1 : (D : Int) + 1 = ((D + 1 : Nat) : Int) := by omega
  have T := Lib.hid (picks_any (D + 1) xs.length w hl (by omega))
  rw [← hD1] at T
  have HE := Lib.hid he
  rw [← he]
  rw [← he] at hcap'
  clear he hD1
  go_enter Try.func34, Try.ntmps34
  go_wp2_with fail
  refine T.out.mono ?_
  rintro e w1 ⟨v, R, rfl, hR, hG, hb1⟩
  obtain ⟨Al, cl, rfl, hcl, hcln⟩ := hG.shape
  have hRl : R.length ≤ 2 ^ xs.length := by have h := congrArg List.length hR; rw [List.length_map] at h; rw [h]; exact pk_len _ _
  have hRb : R.length ≤ 1048576 := Nat.le_trans hRl (Nat.pow_le_pow_right (by omega) hl)
  have HR := Lib.hid hR
  have HG := Lib.hid hG
  have hb1s := hb1.size
  clear hR hG hRl T
  go_wp2
  go_loopw [11] (AgO w1 xs ys m R) (fun i _ => R.length - (intOf i).toNat)
  case atStart => exact ⟨0, Nat.zero_le _, rfl, fun r hr => by simp at hr, Below.refl _ _⟩
  case round =>
    obtain ⟨k, hk, rfl, hno, hbel0⟩ := hrel
    by_cases hkR : k < R.length
    · have hG4 := HG.out.kept hbel0
      obtain ⟨gq, cq2, hvq, hcq2, _, _, hcell⟩ := hG4.at_ hkR
      injection hvq with hA1 _ hA2
      subst hA1 hA2
      obtain ⟨r, hr⟩ : ∃ r, r = R[k] := ⟨_, rfl⟩
      have hrow := HG.out.row R[k] (List.getElem_mem hkR)
      have hgl : gq < w1.heap.size := by
        obtain ⟨g9, c9, h9, _, _, _, h10⟩ := HG.out.at_ hkR
        injection h9 with h9
        injection h9 with h9
        injection h9 with h9
        subst h9
        exact cell_lt h10
      have hcell1 : w1.cell? ⟨gq, k, none⟩ = some (jv R[k]) := (hbel0.cell (p := ⟨gq, k, none⟩) hgl).symm.trans hcell
      have hmem : R[k].l ∈ pk (D + 1) xs.length := by rw [← HR.out]; exact List.mem_map.2 ⟨R[k], List.getElem_mem hkR, rfl⟩
      rw [← hr] at hrow hcell1 hmem hcell
      obtain ⟨gr, cr, rl⟩ := r
      have hcr := hrow.inn.cap
      dsimp only at hcr hmem hrow
      have hcell2 : w1.cell? ⟨gq, k, none⟩ = some (.slice (some ⟨gr, 0, none⟩) rl.length cr) := hcell1
      have hcell3 : wr.cell? ⟨gq, k, none⟩ = some (.slice (some ⟨gr, 0, none⟩) rl.length cr) := hcell
      have hsnd := pk_sound (D + 1) xs.length rl hmem
      have HTK := Lib.hid (show ((R.take (k + 1)).map Jr.l) = ((R.take k).map Jr.l) ++ [rl] by rw [List.take_add_one, List.getElem?_eq_getElem hkR, ← hr, List.map_append]; rfl)
      have HMEM := Lib.hid hmem
      have HSND := Lib.hid hsnd
      have hrll : rl.length ≤ 256 := by have := hsnd.1; omega
      have HROW := Lib.hid hrow
      have HNO := Lib.hid hno
      have hb0s := hbel0.size
      clear hr hrow hG4 hcell hcell1 hmem hsnd hno
      go_wp2
      go_loopw [12, 13, 14] (AgI w1 xs ys rl) (fun _ _ i _ => rl.length - (intOf i).toNat)
      case atStart => exact ⟨0, none, none, 0, 0, Nat.zero_le _, rfl, rfl, rfl, AB.start _ _ _, hbel0⟩
      case round =>
        clear hcell3 hbel0 hb0s
        obtain ⟨j, Aa, Ab, ca, cb, hj, rfl, rfl, rfl, hAB, hbel⟩ := hrel
        have hbs := hbel.size
        have hc1 := (hbel.cell (p := ⟨gq, k, none⟩) hgl).trans hcell2
        by_cases hjr : j < rl.length
        · obtain ⟨x, hx⟩ : ∃ x, rl[j]? = some x := ⟨rl[j], List.getElem?_eq_getElem hjr⟩
          have hxn : x < xs.length := HSND.out.2.1 x (List.mem_of_getElem? hx)
          have hxn' : (x : Int) < (xs.length : Int) := by omega
          obtain ⟨g9, hg9, _, hcr1⟩ := HROW.out.at_ hx
          injection hg9 with hg9
          injection hg9 with hg9
          subst hg9
          have hgrl : gr < w1.heap.size := cell_lt hcr1
          obtain ⟨vx, bx, ox, hvx1, hvx, rfl, hbx, hcx⟩ := hI.sl.at_ hxn
          obtain ⟨vy, by', oy, hvy1, hvy, rfl, hby, hcy⟩ := hI'.sl.at_ (k := x) (by rw [← HE.out]; exact hxn)
          have HC : Hid (∀ w', Below w1.heap.size w1 w' → w'.cell? ⟨gq, k, none⟩ = some (.slice (some ⟨gr, 0, none⟩) rl.length cr) ∧ w'.cell? ⟨gr, j, none⟩ = some (.int .i64 (x : Int)) ∧ w'.cell? ⟨bx, ox + x, none⟩ = some (.int .u8 (vx : Int)) ∧ w'.cell? ⟨by', oy + x, none⟩ = some (.int .u8 (vy : Int))) := Lib.hid (fun w' hb =>
            ⟨(hb.cell (p := ⟨gq, k, none⟩) hgl).trans hcell2, (hb.cell (p := ⟨gr, j, none⟩) hgrl).trans hcr1, (hb.cell (p := ⟨bx, ox + x, none⟩) (by show bx < _; omega)).trans ((hb1.cell (p := ⟨bx, ox + x, none⟩) hbx).trans hcx), (hb.cell (p := ⟨by', oy + x, none⟩) (by show by' < _; omega)).trans ((hb1.cell (p := ⟨by', oy + x, none⟩) hby).trans hcy)⟩)
          obtain ⟨la, hla⟩ : ∃ la, la = pts xs (rl.take j) := ⟨_, rfl⟩
          obtain ⟨lb, hlb⟩ : ∃ lb, lb = pts ys (rl.take j) := ⟨_, rfl⟩
          have hlal : la.length = j := by rw [hla, pts_len, List.length_take]; omega
          have hlbl : lb.length = j := by rw [hlb, pts_len, List.length_take]; omega
          have HNA := Lib.hid hlal.symm
          have HNB := Lib.hid hlbl.symm
          have HLA := Lib.hid (show (la ++ [vx]).length = j + 1 by rw [List.length_append, hlal]; rfl)
          have HLB := Lib.hid (show (lb ++ [vy]).length = j + 1 by rw [List.length_append, hlbl]; rfl)
          have HPA := Lib.hid (show pts xs (rl.take (j + 1)) = la ++ [vx] by rw [pts_take hx, hla, co_of' hvx1])
          have HPB := Lib.hid (show pts ys (rl.take (j + 1)) = lb ++ [vy] by rw [pts_take hx, hlb, co_of' hvy1])
          rw [← hla, ← hlb] at hAB
          have HAB := Lib.hid hAB
          clear hAB hla hlb hx hcx hcy hvx1 hvy1 hcr1
          go_wp2
          go_region_held_law (fun w' => w'.cell? ⟨gq, k, none⟩ = some (.slice (some ⟨gr, 0, none⟩) rl.length cr) ∧ w'.cell? ⟨gr, j, none⟩ = some (.int .i64 (x : Int)) ∧ w'.cell? ⟨bx, ox + x, none⟩ = some (.int .u8 (vx : Int)) ∧ w'.cell? ⟨by', oy + x, none⟩ = some (.int .u8 (vy : Int)))
            (first | exact HC.out _ (Gw.Below.drewN hbel 1) | exact HC.out _ (Gw.Below.drewN (hbel.alloc hbs _) 1) | exact HC.out _ (Gw.Below.drewN ((hbel.alloc hbs _).alloc (by rw [World.size_alloc]; omega) _) 1) | exact HC.out _ hB4 | exact HC.out _ hB2 | exact HC.out _ (hB2.alloc hb2s _))
            (first
              | (refine step_apAt rfl (.tmp 36) (.tmp 47) 36 rfl w1.heap.size 5 i0 (.int .u8 0) 1 1 Try.underlying36 hi0 hz0 hz1 hz2 rfl (by decide) (.slice Aa j ca) j (bys la) (by first | rfl | (simp [Act.eval]; done)) ?_ ⟨wr.heap.size, 0, none⟩ 1 1 [.int .u8 (vx : Int)] (by first | rfl | (simp [Act.eval]; done)) rfl ?_ ?_ ?_ ?_ ?_ ?_
                 · first | exact ((HAB.out.a.alloc _).drewN 1).row1 HNA.out | exact (((HAB.out.a.alloc _).alloc _).drewN 1).row1 HNA.out
                 · refine news_one ?_; first | exact cell_new wr _ _ | exact cell_1a wr _ _ _
                 · intro u hu; simp at hu; subst hu; rfl
                 · simp only [maxLen]; omega
                 · omega
                 · exact (by first | (show _ ≤ (wr.alloc _).heap.size; rw [World.size_alloc]; omega) | (show _ ≤ ((wr.alloc _).alloc _).heap.size; rw [World.size_alloc, World.size_alloc]; omega))
                 intro v2 w2 hown2 hgr2 hat2
                 obtain ⟨A2, c2, rfl, hAB2⟩ := AB.app (by first | exact (HAB.out.alloc _).drewN 1 | exact ((HAB.out.alloc _).alloc _).drewN 1) hvx hown2 hgr2 hat2
                 have hB2 : Below w1.heap.size w1 w2 := AB.below (by first | exact (HAB.out.alloc _).drewN 1 | exact ((HAB.out.alloc _).alloc _).drewN 1) (by first | exact Gw.Below.drewN (hbel.alloc hbs _) 1 | exact Gw.Below.drewN ((hbel.alloc hbs _).alloc (by rw [World.size_alloc]; omega) _) 1) (by first | (show _ ≤ (wr.alloc _).heap.size; rw [World.size_alloc]; omega) | (show _ ≤ ((wr.alloc _).alloc _).heap.size; rw [World.size_alloc, World.size_alloc]; omega)) hgr2
                 have hK2 := hgr2
                 have hb2s := hB2.size
                 have hlast : True := trivial
                 rw [HLA.out])
              | (refine step_apAt rfl (.tmp 36) (.tmp 47) 36 rfl w1.heap.size 5 i0 (.int .u8 0) 1 1 Try.underlying36 hi0 hz0 hz1 hz2 rfl (by decide) (.slice Aa j ca) j (bys la) (by first | rfl | (simp [Act.eval]; done)) ?_ ⟨wr.heap.size + 1, 0, none⟩ 1 1 [.int .u8 (vx : Int)] (by first | rfl | (simp [Act.eval]; done)) rfl ?_ ?_ ?_ ?_ ?_ ?_
                 · first | exact ((HAB.out.a.alloc _).drewN 1).row1 HNA.out | exact (((HAB.out.a.alloc _).alloc _).drewN 1).row1 HNA.out
                 · refine news_one ?_; exact cell_2a wr _ _ _
                 · intro u hu; simp at hu; subst hu; rfl
                 · simp only [maxLen]; omega
                 · omega
                 · exact (by first | (show _ ≤ (wr.alloc _).heap.size; rw [World.size_alloc]; omega) | (show _ ≤ ((wr.alloc _).alloc _).heap.size; rw [World.size_alloc, World.size_alloc]; omega))
                 intro v2 w2 hown2 hgr2 hat2
                 obtain ⟨A2, c2, rfl, hAB2⟩ := AB.app (by first | exact (HAB.out.alloc _).drewN 1 | exact ((HAB.out.alloc _).alloc _).drewN 1) hvx hown2 hgr2 hat2
                 have hB2 : Below w1.heap.size w1 w2 := AB.below (by first | exact (HAB.out.alloc _).drewN 1 | exact ((HAB.out.alloc _).alloc _).drewN 1) (by first | exact Gw.Below.drewN (hbel.alloc hbs _) 1 | exact Gw.Below.drewN ((hbel.alloc hbs _).alloc (by rw [World.size_alloc]; omega) _) 1) (by first | (show _ ≤ (wr.alloc _).heap.size; rw [World.size_alloc]; omega) | (show _ ≤ ((wr.alloc _).alloc _).heap.size; rw [World.size_alloc, World.size_alloc]; omega)) hgr2
                 have hK2 := hgr2
                 have hb2s := hB2.size
                 have hlast : True := trivial
                 rw [HLA.out])
              | (refine step_apAt rfl (.tmp 49) (.tmp 60) 36 rfl w1.heap.size 5 i0 (.int .u8 0) 1 1 Try.underlying36 hi0 hz0 hz1 hz2 rfl (by decide) (.slice Ab j cb) j (bys lb) (by first | rfl | (simp [Act.eval]; done)) ?_ ⟨wr.heap.size, 0, none⟩ 1 1 [.int .u8 (vy : Int)] (by first | rfl | (simp [Act.eval]; done)) rfl ?_ ?_ ?_ ?_ ?_ ?_
                 · first | exact ((HAB.out.swap.a.alloc _).drewN 1).row1 HNB.out | exact (((HAB.out.swap.a.alloc _).alloc _).drewN 1).row1 HNB.out
                 · refine news_one ?_; first | exact cell_new wr _ _ | exact cell_1a wr _ _ _
                 · intro u hu; simp at hu; subst hu; rfl
                 · simp only [maxLen]; omega
                 · omega
                 · exact (by first | (show _ ≤ (wr.alloc _).heap.size; rw [World.size_alloc]; omega) | (show _ ≤ ((wr.alloc _).alloc _).heap.size; rw [World.size_alloc, World.size_alloc]; omega))
                 intro v2 w2 hown2 hgr2 hat2
                 obtain ⟨A2, c2, rfl, hAB2⟩ := AB.app (by first | exact (HAB.out.swap.alloc _).drewN 1 | exact ((HAB.out.swap.alloc _).alloc _).drewN 1) hvy hown2 hgr2 hat2
                 have hB2 : Below w1.heap.size w1 w2 := AB.below (by first | exact (HAB.out.swap.alloc _).drewN 1 | exact ((HAB.out.swap.alloc _).alloc _).drewN 1) (by first | exact Gw.Below.drewN (hbel.alloc hbs _) 1 | exact Gw.Below.drewN ((hbel.alloc hbs _).alloc (by rw [World.size_alloc]; omega) _) 1) (by first | (show _ ≤ (wr.alloc _).heap.size; rw [World.size_alloc]; omega) | (show _ ≤ ((wr.alloc _).alloc _).heap.size; rw [World.size_alloc, World.size_alloc]; omega)) hgr2
                 have hK2 := hgr2
                 have hb2s := hB2.size
                 have hlast : True := trivial
                 rw [HLB.out])
              | (refine step_apAt rfl (.tmp 49) (.tmp 60) 36 rfl w1.heap.size 5 i0 (.int .u8 0) 1 1 Try.underlying36 hi0 hz0 hz1 hz2 rfl (by decide) (.slice Ab j cb) j (bys lb) (by first | rfl | (simp [Act.eval]; done)) ?_ ⟨wr.heap.size + 1, 0, none⟩ 1 1 [.int .u8 (vy : Int)] (by first | rfl | (simp [Act.eval]; done)) rfl ?_ ?_ ?_ ?_ ?_ ?_
                 · first | exact ((HAB.out.swap.a.alloc _).drewN 1).row1 HNB.out | exact (((HAB.out.swap.a.alloc _).alloc _).drewN 1).row1 HNB.out
                 · refine news_one ?_; exact cell_2a wr _ _ _
                 · intro u hu; simp at hu; subst hu; rfl
                 · simp only [maxLen]; omega
                 · omega
                 · exact (by first | (show _ ≤ (wr.alloc _).heap.size; rw [World.size_alloc]; omega) | (show _ ≤ ((wr.alloc _).alloc _).heap.size; rw [World.size_alloc, World.size_alloc]; omega))
                 intro v2 w2 hown2 hgr2 hat2
                 obtain ⟨A2, c2, rfl, hAB2⟩ := AB.app (by first | exact (HAB.out.swap.alloc _).drewN 1 | exact ((HAB.out.swap.alloc _).alloc _).drewN 1) hvy hown2 hgr2 hat2
                 have hB2 : Below w1.heap.size w1 w2 := AB.below (by first | exact (HAB.out.swap.alloc _).drewN 1 | exact ((HAB.out.swap.alloc _).alloc _).drewN 1) (by first | exact Gw.Below.drewN (hbel.alloc hbs _) 1 | exact Gw.Below.drewN ((hbel.alloc hbs _).alloc (by rw [World.size_alloc]; omega) _) 1) (by first | (show _ ≤ (wr.alloc _).heap.size; rw [World.size_alloc]; omega) | (show _ ≤ ((wr.alloc _).alloc _).heap.size; rw [World.size_alloc, World.size_alloc]; omega)) hgr2
                 have hK2 := hgr2
                 have hb2s := hB2.size
                 have hlast : True := trivial
                 rw [HLB.out])
              | (refine step_apAt rfl (.tmp 49) (.tmp 60) 36 rfl w1.heap.size 5 i0 (.int .u8 0) 1 1 Try.underlying36 hi0 hz0 hz1 hz2 rfl (by decide) (.slice Ab j cb) j (bys lb) (by first | rfl | (simp [Act.eval]; done)) ?_ ⟨w2.heap.size, 0, none⟩ 1 1 [.int .u8 (vy : Int)] (by first | rfl | (simp [Act.eval]; done)) rfl ?_ ?_ ?_ ?_ ?_ ?_
                 · exact (hAB2.swap.a.alloc _).row1 HNB.out
                 · refine news_one ?_; exact cell_new w2 _ _
                 · intro u hu; simp at hu; subst hu; rfl
                 · simp only [maxLen]; omega
                 · omega
                 · exact (by rw [World.size_alloc]; omega)
                 intro v4 w4 hown4 hgr4 hat4
                 obtain ⟨A4, c4, rfl, hAB4⟩ := AB.app (hAB2.swap.alloc _) hvy hown4 hgr4 hat4
                 have hB4 : Below w1.heap.size w1 w4 := AB.below (hAB2.swap.alloc _) (hB2.alloc hb2s _) (by rw [World.size_alloc]; omega) hgr4
                 rw [HLB.out])
              | (refine step_apAt rfl (.tmp 49) (.tmp 60) 36 rfl w1.heap.size 5 i0 (.int .u8 0) 1 1 Try.underlying36 hi0 hz0 hz1 hz2 rfl (by decide) (.slice Ab j cb) j (bys lb) (by first | rfl | (simp [Act.eval]; done)) ?_ ⟨wr.heap.size + 1, 0, none⟩ 1 1 [.int .u8 (vy : Int)] (by first | rfl | (simp [Act.eval]; done)) rfl ?_ ?_ ?_ ?_ ?_ ?_
                 · exact hAB2.swap.a.row1 HNB.out
                 · refine news_one ?_; exact grown_cell hK2 (cell_2a wr _ _ _) (fun r hr => by have := (ownB HAB.out.a hr).2; omega)
                 · intro u hu; simp at hu; subst hu; rfl
                 · simp only [maxLen]; omega
                 · omega
                 · exact hb2s
                 intro v4 w4 hown4 hgr4 hat4
                 obtain ⟨A4, c4, rfl, hAB4⟩ := AB.app hAB2.swap hvy hown4 hgr4 hat4
                 have hB4 : Below w1.heap.size w1 w4 := AB.below hAB2.swap hB2 hb2s hgr4
                 rw [HLB.out])
              | (refine step_apAt rfl (.tmp 49) (.tmp 60) 36 rfl w1.heap.size 5 i0 (.int .u8 0) 1 1 Try.underlying36 hi0 hz0 hz1 hz2 rfl (by decide) (.slice Ab j cb) j (bys lb) (by first | rfl | (simp [Act.eval]; done)) ?_ ⟨wr.heap.size, 0, none⟩ 1 1 [.int .u8 (vy : Int)] (by first | rfl | (simp [Act.eval]; done)) rfl ?_ ?_ ?_ ?_ ?_ ?_
                 · exact hAB2.swap.a.row1 HNB.out
                 · refine news_one ?_; exact grown_cell hK2 (cell_1a wr _ _ _) (fun r hr => by have := (ownB HAB.out.a hr).2; omega)
                 · intro u hu; simp at hu; subst hu; rfl
                 · simp only [maxLen]; omega
                 · omega
                 · exact hb2s
                 intro v4 w4 hown4 hgr4 hat4
                 obtain ⟨A4, c4, rfl, hAB4⟩ := AB.app hAB2.swap hvy hown4 hgr4 hat4
                 have hB4 : Below w1.heap.size w1 w4 := AB.below hAB2.swap hB2 hb2s hgr4
                 rw [HLB.out])
              | (refine step_apAt rfl (.tmp 36) (.tmp 47) 36 rfl w1.heap.size 5 i0 (.int .u8 0) 1 1 Try.underlying36 hi0 hz0 hz1 hz2 rfl (by decide) (.slice Aa j ca) j (bys la) (by first | rfl | (simp [Act.eval]; done)) ?_ ⟨w2.heap.size, 0, none⟩ 1 1 [.int .u8 (vx : Int)] (by first | rfl | (simp [Act.eval]; done)) rfl ?_ ?_ ?_ ?_ ?_ ?_
                 · exact (hAB2.swap.a.alloc _).row1 HNA.out
                 · refine news_one ?_; exact cell_new w2 _ _
                 · intro u hu; simp at hu; subst hu; rfl
                 · simp only [maxLen]; omega
                 · omega
                 · exact (by rw [World.size_alloc]; omega)
                 intro v4 w4 hown4 hgr4 hat4
                 obtain ⟨A4, c4, rfl, hAB4⟩ := AB.app (hAB2.swap.alloc _) hvx hown4 hgr4 hat4
                 have hB4 : Below w1.heap.size w1 w4 := AB.below (hAB2.swap.alloc _) (hB2.alloc hb2s _) (by rw [World.size_alloc]; omega) hgr4
                 rw [HLA.out])
              | (refine step_apAt rfl (.tmp 36) (.tmp 47) 36 rfl w1.heap.size 5 i0 (.int .u8 0) 1 1 Try.underlying36 hi0 hz0 hz1 hz2 rfl (by decide) (.slice Aa j ca) j (bys la) (by first | rfl | (simp [Act.eval]; done)) ?_ ⟨wr.heap.size + 1, 0, none⟩ 1 1 [.int .u8 (vx : Int)] (by first | rfl | (simp [Act.eval]; done)) rfl ?_ ?_ ?_ ?_ ?_ ?_
                 · exact hAB2.swap.a.row1 HNA.out
                 · refine news_one ?_; exact grown_cell hK2 (cell_2a wr _ _ _) (fun r hr => by have := (ownB HAB.out.b hr).2; omega)
                 · intro u hu; simp at hu; subst hu; rfl
                 · simp only [maxLen]; omega
                 · omega
                 · exact hb2s
                 intro v4 w4 hown4 hgr4 hat4
                 obtain ⟨A4, c4, rfl, hAB4⟩ := AB.app hAB2.swap hvx hown4 hgr4 hat4
                 have hB4 : Below w1.heap.size w1 w4 := AB.below hAB2.swap hB2 hb2s hgr4
                 rw [HLA.out])
              | (refine step_apAt rfl (.tmp 36) (.tmp 47) 36 rfl w1.heap.size 5 i0 (.int .u8 0) 1 1 Try.underlying36 hi0 hz0 hz1 hz2 rfl (by decide) (.slice Aa j ca) j (bys la) (by first | rfl | (simp [Act.eval]; done)) ?_ ⟨wr.heap.size, 0, none⟩ 1 1 [.int .u8 (vx : Int)] (by first | rfl | (simp [Act.eval]; done)) rfl ?_ ?_ ?_ ?_ ?_ ?_
                 · exact hAB2.swap.a.row1 HNA.out
                 · refine news_one ?_; exact grown_cell hK2 (cell_1a wr _ _ _) (fun r hr => by have := (ownB HAB.out.b hr).2; omega)
                 · intro u hu; simp at hu; subst hu; rfl
                 · simp only [maxLen]; omega
                 · omega
                 · exact hb2s
                 intro v4 w4 hown4 hgr4 hat4
                 obtain ⟨A4, c4, rfl, hAB4⟩ := AB.app hAB2.swap hvx hown4 hgr4 hat4
                 have hB4 : Below w1.heap.size w1 w4 := AB.below hAB2.swap hB2 hb2s hgr4
                 rw [HLA.out]))
          all_goals (
            have H4 := Lib.hid hAB4
            have HB4 := Lib.hid hB4
            clear hAB4 hB4 hAB2 hB2 hown2 hgr2 hat2 hK2 hown4 hgr4 hat4 hlast
            go_wp2
            go_roundw
            case rel => first | exact ⟨j + 1, A2, A4, c2, c4, by omega, by go_num, rfl, rfl, by rw [HPA.out, HPB.out]; exact H4.out.swap, HB4.out⟩ | exact ⟨j + 1, A4, A2, c4, c2, by omega, by go_num, rfl, rfl, by rw [HPA.out, HPB.out]; exact H4.out, HB4.out⟩
            case measure => simp [intOf]; omega)
        · obtain rfl : j = rl.length := by omega
          rw [List.take_length] at hAB
          have hl1 : (pts xs rl).length = rl.length := pts_len _ _
          have hl2 : (pts ys rl).length = rl.length := pts_len _ _
          have T := Lib.hid (rthrough_any Aa Ab ca cb (pts xs rl) (pts ys rl) wr hAB.a.inn hAB.b.inn (by omega) (by omega))
          rw [hl1, hl2] at T
          have HPL := Lib.hid (show (pthr xs ys rl).length ≤ 256 by have := (pthr_ok (ys := ys) HMEM.out).2.2; omega)
          clear hAB hl1 hl2
          go_wp2_with fail
          refine T.out.mono ?_
          rintro e w5 ⟨A5, c5, rfl, ho5, hb5⟩
          have hB5 := hbel.trans (hb5.mono hbs)
          have hB5w := hb1.trans (hB5.mono hb1s)
          have ho6 : Gw.Own w5 wr.heap.size 5 A5 c5 (pthr xs ys rl) := ho5
          have T2 := Lib.hid (agrees_any A5 A A' c5 c c' (pthr xs ys rl) xs ys w5 _ ho6.inn ((hI.below hB5w).more hB5w.size) ((hI'.below hB5w).more hB5w.size) (by have := HE.out; omega) (by have := HPL.out; omega) (by omega))
          rw [← HE.out] at T2
          obtain ⟨q, hq⟩ : ∃ q, q = pthr xs ys rl := ⟨_, rfl⟩
          have hq' : thr (pts xs rl) (pts ys rl) = q := by rw [hq]; rfl
          rw [hq']
          rw [← hq] at T2 ho6 HPL
          have HQ := Lib.hid hq
          obtain ⟨g, hg⟩ : ∃ g, g = agrTo q xs ys xs.length := ⟨_, rfl⟩
          rw [← hg] at T2
          have HGG := Lib.hid hg
          have HO6 := Lib.hid ho6
          have HB5 := Lib.hid hB5
          have HB5w := Lib.hid hB5w
          clear T ho5 hq hq' hg ho6 hb5 hB5 hB5w hc1
          go_wp2_with fail
          refine T2.out.mono ?_
          rintro e w6 ⟨rfl, mm, rfl⟩
          by_cases hge : m ≤ g
          · have hge2 : (m : Int) ≤ (g : Int) := by omega
            have hge3 : ¬ ((g : Int) < (m : Int)) := by omega
            go_wp2
            go_ret2
            exact ⟨.inl ⟨rl, A5, c5, HMEM.out, by rw [← HQ.out]; rfl, by rw [← HQ.out, ← HGG.out]; exact hge, by rw [← HQ.out]; exact (HO6.out.drewN mm).base (by omega)⟩, Gw.Below.drewN HB5w.out mm⟩
          · have hge2 : ¬ ((m : Int) ≤ (g : Int)) := by omega
            have hge3 : (g : Int) < (m : Int) := by omega
            have HNN := Lib.hid (show ∀ r ∈ (R.take (k + 1)).map Jr.l, agrTo (pthr xs ys r) xs ys xs.length < m from fun r hr => by
              rw [HTK.out] at hr
              rcases List.mem_append.1 hr with h | h
              · exact HNO.out r h
              · have hrr : r = rl := by simpa using h
                rw [hrr, ← HQ.out, ← HGG.out]; omega)
            go_wp2
            go_roundw
            case rel => exact ⟨k + 1, by omega, by go_num, HNN.out, Gw.Below.drewN HB5.out mm⟩
            case measure => simp [intOf]; omega
    · obtain rfl : k = R.length := by omega
      have HNN := Lib.hid (show ∀ r ∈ pk (D + 1) xs.length, agrTo (pthr xs ys r) xs ys xs.length < m from fun r hr => hno r (by rw [List.take_length, HR.out]; exact hr))
      clear hno
      go_wp2
      go_ret2
      exact ⟨.inr ⟨rfl, HNN.out⟩, hb1.trans (hbel0.mono hb1s)⟩
end Go.Proofs.Ytgikgnhpplmljaa
end
section
/- What the definition's own Wrong and SameInts (package shamrockref01) do. -/

namespace Go.Proofs.Ytgikgnhpplmljaa
open Go.RowKit Go.Shelf Gw Pol
attribute [local go_sem] Oper.semAt_some
/-- The places below k. -/
def WrRel (w : World) (p xs ys : List Nat) (v i : Value) (wr : World) : Prop :=
  ∃ (k : Nat) (A : Option Addr) (c : Nat), k ≤ xs.length ∧ i = .int .i64 (k : Int) ∧ v = .slice A (wrTo p xs ys k).length c ∧ OwnJ wr w.heap.size 3 A c (wrTo p xs ys k) ∧ Below w.heap.size w wr
theorem wrTo_len (p xs ys : List Nat) (k : Nat) : (wrTo p xs ys k).length ≤ k := by have := wrTo_agr p xs ys k; omega
set_option maxRecDepth 100000 in
set_option maxHeartbeats 1000000 in
theorem rwrong_any (A A1 A2 : Option Addr) (c c1 c2 : Nat) (p xs ys : List Nat) (w : World) (hp : In w w.heap.size A c p) (hx : In w w.heap.size A1 c1 xs) (hy : In w w.heap.size A2 c2 ys) (hl : xs.length ≤ ys.length) (hcm : p.length ≤ 140737488355328) (hcm2 : xs.length ≤ 1073741824) :
    Calls Try.prog 35 #[.slice A p.length c, .slice A1 xs.length c1, .slice A2 ys.length c2] w fun e w' => ∃ A3 c3, e = .returned (.slice A3 (wrTo p xs ys xs.length).length c3) ∧ OwnJ w' w.heap.size 3 A3 c3 (wrTo p xs ys xs.length) ∧ Below w.heap.size w w' := by
  obtain ⟨i0, hi0, hz0, hz1, hz2⟩ := info_parts pint_info
  go_enter Try.func35, Try.ntmps35
  go_wp2
  go_loopw [7, 8] (WrRel w p xs ys) (fun _ i _ => xs.length - (intOf i).toNat)
  case atStart => exact ⟨0, none, 0, Nat.zero_le _, rfl, rfl, OwnJ.nil _ _ _, Below.refl _ _⟩
  case round =>
    obtain ⟨k, Ao, cl, hk, rfl, rfl, hoj, hbel⟩ := hrel
    have hp' := hp.below hbel
    have hx' := hx.below hbel
    have hy' := hy.below hbel
    have hs := hbel.size
    by_cases hkp : k < xs.length
    · obtain ⟨x, b, off, hx1, hxb, rfl, hb, hcell⟩ := hx'.sl.at_ hkp
      obtain ⟨y, b2, off2, hy1, hyb, rfl, hb2, hcell2⟩ := hy'.sl.at_ (k := k) (by omega)
      have hky : k < ys.length := by omega
      have HX := Lib.hid (co_of' hx1)
      have HY := Lib.hid (co_of' hy1)
      have hwl := wrTo_len p xs ys k
      clear hx1 hy1 hx' hy'
      by_cases he : ev x p = y
      · have hB : ((ev x p : Int) != (y : Int)) = false := by rw [bne_eq_false_iff_eq]; omega
        have HA := Lib.hid (show wrTo p xs ys (k + 1) = wrTo p xs ys k by rw [wrTo, if_pos (by rw [HX.out, HY.out]; exact he)])
        have HO := Lib.hid hoj
        have HBL := Lib.hid hbel
        clear he hoj hbel
        go_wp2
        go_quiet ((go_at_call 43; exact Calls.quiet_of_same (reval_same A c p x hxb _ _ (hp'.drewN _) hcm)))
        go_wp2
        go_roundw
        case rel => exact ⟨k + 1, Ao, cl, by omega, by go_num, by rw [HA.out], by rw [HA.out]; exact HO.out.drewN nq, Gw.Below.drewN HBL.out nq⟩
        case measure => simp [intOf]; omega
      · have hB : ((ev x p : Int) != (y : Int)) = true := by rw [bne_iff_ne]; omega
        have HA := Lib.hid (show wrTo p xs ys (k + 1) = wrTo p xs ys k ++ [k] by rw [wrTo, if_neg (by rw [HX.out, HY.out]; exact he)])
        have HO := Lib.hid hoj
        have HBL := Lib.hid hbel
        clear he hoj hbel
        go_wp2
        go_quiet ((go_at_call 43; exact Calls.quiet_of_same (reval_same A c p x hxb _ _ (hp'.drewN _) hcm)))
        have hoj := HO.out.drewN nq
        have hbel := Gw.Below.drewN HBL.out nq
        have hs5 := hbel.size
        obtain ⟨W5, hW5⟩ : ∃ W5, W5 = wr.drewN nq := ⟨_, rfl⟩
        rw [← hW5] at hoj hbel hs5 ⊢
        have HO5 := Lib.hid hoj
        clear hW5 hcell hcell2 hoj hp'
        go_wp2_with (at_builtin; refine wpList_append_own _ rfl (.tmp 26) (.tmp 28) 24 rfl w.heap.size 3 i0 (.int .i64 0) 1 8 Try.underlying24 hi0 hz0 hz1 hz2 rfl (by decide) (.slice Ao (wrTo p xs ys k).length cl) (wrTo p xs ys k).length (intv (wrTo p xs ys k)) rfl (HO5.out.alloc _) ⟨W5.heap.size, 0, none⟩ 1 1 [.int .i64 (k : Int)] rfl rfl (fun j u hj => by
            match j, hj with
            | 0, hj => simp at hj; subst hj; exact cell_new W5 _ _) (fun u hu => by simp at hu; subst hu; rfl) (by simp only [maxLen]; omega) (by omega) (by rw [World.size_alloc]; omega) ?_; intro v' w6 hown6 hgr6 _)
        obtain ⟨A9, c9, rfl, hO9⟩ := OwnJ.mk' (L := wrTo p xs ys k ++ [k]) (by rw [intv_app]; exact hown6)
        have hB9 : Below w.heap.size w w6 := (hbel.trans (((Below.refl _ W5).alloc (Nat.le_refl _) _).mono hs5)).grown hgr6 (by rw [World.size_alloc]; omega) (fun b hb => (HO5.out.block hb).1)
        have H9 := Lib.hid hO9
        clear hO9 hown6 hgr6
        go_roundw
        case rel => exact ⟨k + 1, A9, c9, by omega, by go_num, by rw [HA.out], by rw [HA.out]; exact H9.out, hB9⟩
        case measure => simp [intOf]; omega
    · obtain rfl : k = xs.length := by omega
      go_wp2
      go_ret
      exact ⟨Ao, cl, rfl, hoj, hbel⟩

/-- Are they the same numbers? -/
theorem list_diff {L M : List Nat} (h : L.length = M.length) (hne : L ≠ M) : ∃ k, k < L.length ∧ L[k]? ≠ M[k]? := by
  refine Decidable.byContradiction fun hn => hne (List.ext_getElem? fun i => ?_)
  by_cases hi : i < L.length
  · refine Decidable.byContradiction fun h2 => hn ⟨i, hi, h2⟩
  · rw [List.getElem?_eq_none (by omega), List.getElem?_eq_none (by omega)]
set_option maxRecDepth 100000 in
set_option maxHeartbeats 1000000 in
theorem sameInts_any (A A' : Option Addr) (c c' : Nat) (L M : List Nat) (w : World) (hL : InJ w A c L) (hM : InJ w A' c' M) (hcm : L.length ≤ 1073741824) :
    Calls Try.prog 14 #[.slice A L.length c, .slice A' M.length c'] w fun e w' => e = .returned (.bool (decide (L = M))) ∧ ∃ n, w' = w.drewN n := by
  have hcap := hL.cap
  have hcap2 := hM.cap
  by_cases hlen : L.length = M.length
  · go_enter Try.func14, Try.ntmps14
    have hb : (((L.length : Int)) != ((M.length : Int))) = false := by rw [bne_eq_false_iff_eq]; omega
    have HLEN := Lib.hid hlen
    clear hlen
    go_wp2
    go_loopw [5] (fun i wr => ∃ k n : Nat, k ≤ L.length ∧ i = .int .i64 (k : Int) ∧ (∀ j, j < k → L[j]? = M[j]?) ∧ wr = w.drewN n) (fun i _ => L.length - (intOf i).toNat)
    case atStart => exact ⟨0, 0, Nat.zero_le _, rfl, fun j hj => by omega, rfl⟩
    case round =>
      obtain ⟨k, n, hk, rfl, hsame, hwr⟩ := hrel
      have hL' : InJ wr A c L := by rw [hwr]; exact hL.drewN n
      have hM' : InJ wr A' c' M := by rw [hwr]; exact hM.drewN n
      have HW := Lib.hid hwr
      clear hwr hL hM
      by_cases hkp : k < L.length
      · obtain ⟨x, b, off, hx1, rfl, hcell⟩ := hL'.at_ hkp
        obtain ⟨y, b2, off2, hy1, rfl, hcell2⟩ := hM'.at_ (k := k) (by rw [← HLEN.out]; exact hkp)
        have hkM : k < M.length := by rw [← HLEN.out]; exact hkp
        by_cases he : x = y
        · have hB : ((x : Int) != (y : Int)) = false := by rw [bne_eq_false_iff_eq]; omega
          have HS := Lib.hid (show ∀ j, j < k + 1 → L[j]? = M[j]? from fun j hj => by
            by_cases e : j = k
            · rw [e, hx1, hy1, he]
            · exact hsame j (by omega))
          clear he hx1 hy1 hsame hL' hM'
          go_wp2
          go_quiet (fail)
          go_wp2
          go_roundw
          case rel => exact ⟨k + 1, n + nq, by omega, by go_num, HS.out, by rw [HW.out, World.drewN_drewN]⟩
          case measure => simp [intOf]; omega
        · have hB : ((x : Int) != (y : Int)) = true := by rw [bne_iff_ne]; omega
          have HN := Lib.hid (show decide (L = M) = false from decide_eq_false (fun e => he (by rw [e, hy1] at hx1; injection hx1 with hx1; exact hx1.symm)))
          clear he hx1 hy1 hsame hL' hM'
          go_wp2
          go_quiet (fail)
          go_wp2
          go_ret
          exact ⟨by rw [HN.out]; rfl, n + nq, by rw [HW.out, World.drewN_drewN]⟩
      · obtain rfl : k = L.length := by omega
        have HY := Lib.hid (show decide (L = M) = true from decide_eq_true (List.ext_getElem? fun j => by
          by_cases hj : j < L.length
          · exact hsame j hj
          · rw [List.getElem?_eq_none (by omega), List.getElem?_eq_none (by rw [← HLEN.out]; omega)]))
        clear hsame
        go_wp2
        go_ret
        exact ⟨by rw [HY.out]; rfl, n, HW.out⟩
  · have hb : (((L.length : Int)) != ((M.length : Int))) = true := by rw [bne_iff_ne]; omega
    have HN := Lib.hid (show decide (L = M) = false from decide_eq_false (fun e => hlen (by rw [e])))
    clear hlen
    go_enter Try.func14, Try.ntmps14
    go_wp2
    go_ret
    exact ⟨by rw [HN.out]; rfl, 0, rfl⟩
end Go.Proofs.Ytgikgnhpplmljaa
end
section
/- What the definition's own Column (package shamrockref10) does: a column of shares. -/
namespace Pol
theorem colR_succ (l : Nat → List Nat) (q c : Nat) : colR l (q + 1) c = colR l q c ++ [co (l q) c] := by simp [colR, List.range_succ]
end Pol
namespace Go.Proofs.Ytgikgnhpplmljaa
open Go.RowKit Go.Shelf Gw Pol
def ClRel (w : World) (l : Nat → List Nat) (R c : Nat) (v i : Value) (wr : World) : Prop :=
  ∃ (q cq : Nat) (A : Option Addr), q ≤ R ∧ v = .slice A q cq ∧ i = .int .i64 (q : Int) ∧ Gw.Own wr w.heap.size 5 A cq (colR l q c) ∧ Below w.heap.size w wr
set_option maxRecDepth 100000 in
set_option maxHeartbeats 1000000 in
theorem rcolumn_any (A : Option Addr) (cA R c : Nat) (pa : Nat → Option Addr) (cp : Nat → Nat) (l : Nat → List Nat) (w : World) (hM : MIn w w.heap.size A cA R pa cp l) (hl : ∀ i, i < R → c < (l i).length) (hRb : R ≤ 1073741824) :
    Calls Try.prog 33 #[.slice A R cA, .int .i64 (c : Int)] w fun e w' => ∃ A2 c2, e = .returned (.slice A2 R c2) ∧ Gw.Own w' w.heap.size 5 A2 c2 (colR l R c) ∧ Below w.heap.size w w' := by
  obtain ⟨i0, hi0, hz0, hz1, hz2⟩ := info_parts byte_info
  have hcap := hM.cap
  go_enter Try.func33, Try.ntmps33
  go_wp2
  go_loopw [5, 6] (ClRel w l R c) (fun _ i _ => R - (intOf i).toNat)
  case atStart => exact ⟨0, 0, none, Nat.zero_le _, rfl, rfl, Own.none_ _ _ _, Below.refl _ _⟩
  case round =>
    obtain ⟨q, cq, Aq, hq, rfl, rfl, hown, hbel⟩ := hrel
    by_cases hlt : q < R
    · obtain ⟨b, off, rfl, hb, hcell, hrow⟩ := (hM.below hbel).rd q hlt
      obtain ⟨y, b2, off2, hy, hyb, hA2, hb2, hcell2⟩ := hrow.sl.at_ (hl q hlt)
      have hcl := hl q hlt
      have hcapr := hrow.cap
      obtain ⟨nl, hnl⟩ : ∃ nl, nl = (l q).length := ⟨_, rfl⟩
      rw [← hnl] at hcell hcl hcapr
      rw [hA2] at hcell
      have hci : (c : Int) < (nl : Int) := by omega
      have hqi : (q : Int) < (R : Int) := by omega
      have HT := Lib.hid (show colR l (q + 1) c = colR l q c ++ [y] by rw [colR_succ, co_of' hy])
      have HLE := Lib.hid (colR_len l q c)
      have HOW := Lib.hid (hown.alloc (.cells #[.int .u8 (y : Int)] 5))
      have HSL := Lib.hid (Sl.one wr 5 y hyb)
      have HOWN := Lib.hid hown
      have hbs := hbel.size
      clear hown hy hrow hA2 hnl
      go_wp2_with (first | (at_builtin; refine wpList_app rfl (.tmp 13) (.tmp 21) 36 rfl w.heap.size 5 i0 _ Try.underlying36 hi0 hz0 hz1 hz2 rfl Aq q cq (colR l q c) rfl HLE.out.symm HOW.out (wr.heap.size + 1) (some ⟨wr.heap.size, 0, none⟩) 1 1 [y] rfl rfl (fun h => by cases h) HSL.out (by rw [HLE.out]; simp; omega) (by rw [World.size_alloc]; omega) ?_; intro A2 cN w2 hown2 hgr2; rw [List.length_append, HLE.out]) | fail)
      have HB2 := Lib.hid (below_app hbel hbel.size HOWN.out hgr2)
      rw [← HT.out] at hown2
      have HO2 := Lib.hid hown2
      clear hown2 hgr2
      go_roundw
      case rel => exact ⟨q + 1, cN, A2, by omega, rfl, by go_num, HO2.out, HB2.out⟩
      case measure => simp [intOf]; omega
    · obtain rfl : q = R := by omega
      have HO := Lib.hid hown
      clear hown
      go_wp2
      go_ret
      exact ⟨_, _, rfl, HO.out, hbel⟩
end Go.Proofs.Ytgikgnhpplmljaa
end
section
/- Which holders are told to be wrong, of turned shares of a document; shares in another order. -/
namespace Pol
open Go.Proofs.Ytgikgnhpplmljaa
theorem Few.wrongs {n t k C : Nat} {d rnd fr : List Nat} {T : Nat → List Nat} (h : Few n t k d rnd C fr T) (hn : n ≤ 254) {g : Nat → Bool} (hg : fr = (List.range n).filter g) :
    wrongL n (zOf fr) fr.length (rOf fr T) (polL n k t d rnd) C = fr.filter (trnB n t k d rnd C T) := by
  have key : wrongL n (zOf fr) fr.length (rOf fr T) (polL n k t d rnd) C = (List.range n).filter (fun a => trnB n t k d rnd C T a && g a) := by
    refine List.filter_congr fun x hx => Bool.eq_iff_iff.2 ?_
    have hxn := List.mem_range.1 hx
    rw [badB_iff, Bool.and_eq_true]
    constructor
    · rintro ⟨c, hc, i, hi, h1, h2⟩
      rw [zOf_at hi] at h1
      have h3 : fr.getD i 0 = x := by omega
      have h4 : fr.getD i 0 ∈ fr := frAt hi
      refine ⟨by rw [← h3]; exact h.wrong hn hc hi (by rw [colR_at hi]; exact h2), ?_⟩
      rw [h3, hg] at h4
      exact (List.mem_filter.1 h4).2
    · rintro ⟨h1, h2⟩
      have hm : x ∈ fr := by rw [hg]; exact List.mem_filter.2 ⟨hx, h2⟩
      obtain ⟨i, hi, he⟩ := List.getElem_of_mem hm
      have hfi : fr.getD i 0 = x := by simp [hi, he]
      have hne : T x ≠ shRow (polL n k t d rnd) C x := of_decide_eq_true h1
      have hl := h.rows x hm
      refine Decidable.byContradiction fun hno => hne ?_
      apply List.ext_getElem
      · rw [hl, shRow_len]
      · intro c h3 h4
        have hc : c < C := by omega
        refine Decidable.byContradiction fun hcne => hno ⟨c, hc, i, hi, by rw [zOf_at hi, hfi], ?_⟩
        rw [h.xs hn hi, rOf, hfi, co_get h3]
        have h5 := co_shRow (polL n k t d rnd) (C := C) (h := x) hc
        rw [co_get h4] at h5
        rw [← h5]
        exact fun e => hcne e.symm
  rw [key, hg, List.filter_filter]
/-- Another order of R places. -/
structure Sig (R : Nat) (σ : Nat → Nat) : Prop where
  perm : ((List.range R).map σ).Perm (List.range R)
theorem Sig.lt {R : Nat} {σ : Nat → Nat} (h : Sig R σ) {i : Nat} (hi : i < R) : σ i < R := List.mem_range.1 (h.perm.mem_iff.1 (List.mem_map_of_mem (List.mem_range.2 hi)))
theorem Sig.onto {R : Nat} {σ : Nat → Nat} (h : Sig R σ) {j : Nat} (hj : j < R) : ∃ i, i < R ∧ σ i = j := by
  obtain ⟨i, hi, e⟩ := List.mem_map.1 (h.perm.mem_iff.2 (List.mem_range.2 hj))
  exact ⟨i, List.mem_range.1 hi, e⟩
def zTo (z : List Int) (R : Nat) (σ : Nat → Nat) : List Int := (List.range R).map fun i => z.getD (σ i) 0
theorem zTo_len (z : List Int) (R : Nat) (σ : Nat → Nat) : (zTo z R σ).length = R := by simp [zTo]
theorem zTo_at {z : List Int} {R i : Nat} {σ : Nat → Nat} (hi : i < R) : (zTo z R σ).getD i 0 = z.getD (σ i) 0 := by simp [zTo, hi]
theorem zTo_perm {z : List Int} {R : Nat} {σ : Nat → Nat} (h : Sig R σ) (hz : z.length = R) : (zTo z R σ).Perm z := by
  have e : z = (List.range R).map fun i => z.getD i 0 := by
    apply List.ext_getElem
    · simp [hz]
    · intro i h1 h2; simp [h1]
  have e2 : zTo z R σ = ((List.range R).map σ).map fun i => z.getD i 0 := by rw [List.map_map]; rfl
  rw [e2]
  conv => rhs; rw [e]
  exact h.perm.map _
section
variable {n t k e R : Nat} {C : Int} {z : List Int} {σ : Nat → Nat} {l P : Nat → List Nat}
theorem xs_co {z : List Int} {i : Nat} (hi : i < z.length) : co (xsL z) i = ((z.getD i 0 + 1) % 256).toNat := by simp [co, xsL, hi]
theorem Eno.to (h : Eno n t k e C z R l) (hs : Sig R σ) : Eno n t k e C (zTo z R σ) R (fun i => l (σ i)) := by
  have hp := zTo_perm hs h.len
  exact ⟨zTo_len _ _ _, by rw [zTo_len]; have := h.many; rw [h.len] at this; exact this, h.c0, fun x hx => h.inn x (hp.mem_iff.1 hx), hp.nodup_iff.2 h.un, fun i hi => h.rows _ (hs.lt hi)⟩
theorem Eno.of (hz : z.length = R) (hs : Sig R σ) (h : Eno n t k e C (zTo z R σ) R (fun i => l (σ i))) : Eno n t k e C z R l := by
  have hp := zTo_perm hs hz
  refine ⟨hz, by have := h.many; rw [zTo_len] at this; omega, h.c0, fun x hx => h.inn x (hp.mem_iff.2 hx), hp.nodup_iff.1 h.un, fun j hj => ?_⟩
  obtain ⟨i, hi, rfl⟩ := hs.onto hj
  exact h.rows i hi
theorem wr_to (hz : z.length = R) (hs : Sig R σ) (c : Nat) (p : List Nat) : (wrTo p (xsL (zTo z R σ)) (colR (fun i => l (σ i)) R c) R).length = (wrTo p (xsL z) (colR l R c) R).length := by
  rw [wrTo_filter, wrTo_filter, ← List.countP_eq_length_filter, ← List.countP_eq_length_filter]
  conv => rhs; rw [← hs.perm.countP_eq, List.countP_map]
  refine List.countP_congr fun i hi => ?_
  have hi' := List.mem_range.1 hi
  have h1 : co (xsL (zTo z R σ)) i = co (xsL z) (σ i) := by rw [xs_co (by rw [zTo_len]; exact hi'), xs_co (by rw [hz]; exact hs.lt hi'), zTo_at hi']
  rw [Function.comp_apply, h1, colR_at hi', colR_at (hs.lt hi')]
theorem Agc.to_iff (h : Eno n t k e C z R l) (hn : n ≤ 254) (hs : Sig R σ) {c : Nat} {p : List Nat} : Agc t k e (zTo z R σ) R (fun i => l (σ i)) c p ↔ Agc t k e z R l c p := by
  have hx : (xsL z).length = R := by rw [xsL_len, h.len]
  have hx' : (xsL (zTo z R σ)).length = R := by rw [xsL_len, zTo_len]
  have hw := wr_to (l := l) h.len hs c p
  constructor
  · intro a
    have a1 := a.most; have a2 := a.own; have a3 := a.few
    rw [hx', hw] at a1 a2
    rw [hx'] at a3
    exact ⟨a.bb, a.tr_, by rw [hx, colR_len], by rw [hx]; exact a3, h.xs_un hn, a.d0, a.d1, a.e0, a.e1, a.deg, by rw [hx]; exact a1, by rw [hx]; exact a2⟩
  · intro a
    have a1 := a.most; have a2 := a.own; have a3 := a.few
    rw [hx, ← hw] at a1 a2
    rw [hx] at a3
    exact ⟨a.bb, a.tr_, by rw [hx', colR_len], by rw [hx']; exact a3, (h.to hs).xs_un hn, a.d0, a.d1, a.e0, a.e1, a.deg, by rw [hx']; exact a1, by rw [hx']; exact a2⟩
theorem Fnd.to {C : Nat} (h : Fnd n t k e C z R l P) (hn : n ≤ 254) (hs : Sig R σ) : Fnd n t k e C (zTo z R σ) R (fun i => l (σ i)) P :=
  ⟨h.eno.to hs, fun c hc => (Agc.to_iff h.eno hn hs).2 (h.agd c hc)⟩
theorem Fno.to (h : Fno n t k e C z R l) (hz : z.length = R) (hn : n ≤ 254) (hs : Sig R σ) : Fno n t k e C (zTo z R σ) R (fun i => l (σ i)) := by
  by_cases he : Eno n t k e C z R l
  · rcases h with h | ⟨c, hc, h⟩
    · exact absurd he h
    · exact .inr ⟨c, hc, fun p hp => h p ((Agc.to_iff he hn hs).1 hp)⟩
  · exact .inl fun h' => he (Eno.of hz hs h')
theorem wrongL_to {q : Nat} (hz : z.length = R) (hs : Sig R σ) : wrongL n (zTo z R σ) R (fun i => l (σ i)) P q = wrongL n z R l P q := by
  refine List.filter_congr fun x _ => Bool.eq_iff_iff.2 ?_
  rw [badB_iff, badB_iff]
  have h1 : ∀ i, i < R → co (xsL (zTo z R σ)) i = co (xsL z) (σ i) := fun i hi => by rw [xs_co (by rw [zTo_len]; exact hi), xs_co (by rw [hz]; exact hs.lt hi), zTo_at hi]
  constructor
  · rintro ⟨c, hc, i, hi, h2, h3⟩
    exact ⟨c, hc, σ i, hs.lt hi, by rw [← zTo_at hi]; exact h2, by rw [← h1 i hi]; exact h3⟩
  · rintro ⟨c, hc, j, hj, h2, h3⟩
    obtain ⟨i, hi, rfl⟩ := hs.onto hj
    exact ⟨c, hc, i, hi, by rw [zTo_at hi]; exact h2, by rw [h1 i hi]; exact h3⟩
end
/-- Turned by κ places. -/
def rotS (R κ i : Nat) : Nat := if i < R - κ then i + κ else i - (R - κ)
theorem rot_list {α : Type} {R κ : Nat} (hκ : κ ≤ R) (z : List α) (hz : z.length = R) (d : α) : (List.range R).map (fun i => z.getD (rotS R κ i) d) = z.drop κ ++ z.take κ := by
  apply List.ext_getElem
  · simp [hz]; omega
  · intro i h1 h2
    have hi : i < R := by simpa using h1
    rw [List.getElem_map, List.getElem_range]
    by_cases h : i < R - κ
    · rw [List.getElem_append_left (by simp [hz]; exact h), List.getElem_drop]
      simp [rotS, h, List.getD_eq_getElem?_getD]
      rw [List.getElem?_eq_getElem (by omega)]
      simp [Nat.add_comm]
    · rw [List.getElem_append_right (by simp [hz]; omega), List.getElem_take]
      simp only [rotS, if_neg h, List.getD_eq_getElem?_getD, List.length_drop, hz]
      rw [List.getElem?_eq_getElem (by omega)]
      rfl
theorem rotS_sig {R κ : Nat} (hκ : κ ≤ R) : Sig R (rotS R κ) := by
  refine ⟨?_⟩
  have h1 := rot_list hκ (List.range R) (by simp) 0
  have h2 : (List.range R).map (rotS R κ) = (List.range R).map (fun i => (List.range R).getD (rotS R κ i) 0) := by
    refine List.map_congr_left fun i hi => ?_
    have hi' := List.mem_range.1 hi
    have : rotS R κ i < R := by unfold rotS; split <;> omega
    simp [this]
  rw [h2, h1]
  have h3 := List.perm_append_comm (l₁ := (List.range R).drop κ) (l₂ := (List.range R).take κ)
  rw [List.take_append_drop] at h3
  exact h3
theorem zTo_rot {R κ : Nat} (hκ : κ ≤ R) (z : List Int) (hz : z.length = R) : zTo z R (rotS R κ) = z.drop κ ++ z.take κ := rot_list hκ z hz 0
end Pol
end
section
/- For Find: a table of appended rows beside a row of one's own that is turned; what Agreed's answer says of what is agreed on; the holders told to be wrong, place by place. -/
namespace Gw
open Go Go.RowKit Go.Shelf
/-- As a world was when it had b blocks. -/
theorem cut_at (w : World) (b : Nat) (hb : b ≤ w.heap.size) : ∃ w', w'.heap.size = b ∧ Below b w' w := by
  refine ⟨{ w with heap := w.heap.extract 0 b }, by simp; omega, ⟨rfl, rfl, rfl, by simp; omega, fun i hi => ?_⟩⟩
  rw [Array.getElem?_extract]
  simp
  intro h; omega
theorem GrowL.kt {w wr w2 : World} {te tb : TypeId} {v : Value} {k lo hi : Nat} {pa : Nat → Option Addr} {cp : Nat → Nat} {l : Nat → List Nat} (h : GrowL w wr te tb v k pa cp l) (hk : Kt lo hi wr w2) (hg : hi ≤ w.heap.size) : ∃ w', w'.heap.size = w.heap.size ∧ GrowL w' w2 te tb v k pa cp l := by
  obtain ⟨w', h1, h2⟩ := cut_at w2 w.heap.size (Nat.le_trans h.bel.size hk.size)
  have hblk : ∀ b, w.heap.size ≤ b → b < wr.heap.size → w2.heap[b]? = wr.heap[b]? := fun b hb hb2 => hk.block b hb2 (by omega)
  refine ⟨w', h1, ⟨⟨h.own.1, ?_⟩, fun i hi' => ?_, h.dis, by rw [h1]; exact h2⟩⟩
  · rcases h.own.2 with h0 | ⟨b, cap, cur, hv, hb, hgb, h0⟩
    · exact .inl h0
    · exact .inr ⟨b, cap, cur, hv, by omega, (hblk b hb (Array.getElem?_eq_some_iff.1 hgb).1).trans hgb, h0⟩
  · have := (h.row i hi').block (W2 := w2) fun b o e => by
      have h3 := h.row i hi'
      rw [e] at h3
      exact hblk b h3.lt.1 h3.lt.2
    exact this.base (by omega)
theorem mrow (w : World) (z : Value) (t : TypeId) (n : Nat) : Row (w.alloc (.cells (madeCells #[z] n) t)) w.heap.size n (fun _ => z) := fun o ho => by
  refine ⟨?_, World.frozen?_alloc_new w _ t o⟩
  rw [World.cell?_alloc_new w _ t o]
  simp [madeCells, ho, Nat.mod_one]
theorem GrowL.more {w wr w2 : World} {te tb : TypeId} {v : Value} {k : Nat} {pa : Nat → Option Addr} {cp : Nat → Nat} {l : Nat → List Nat} (h : GrowL w wr te tb v k pa cp l) (hb : Below wr.heap.size wr w2) : GrowL w w2 te tb v k pa cp l :=
  ⟨h.own2 hb, fun i hi => (h.row i hi).kept hb, h.dis, h.bel.trans (hb.mono h.bel.size)⟩
end Gw
namespace Pol
open Go.Proofs.Ytgikgnhpplmljaa
/-- Of each column the one that is agreed on. -/
theorem agc_pick (t k e : Nat) (z : List Int) (R : Nat) (l : Nat → List Nat) : ∃ P : Nat → List Nat, ∀ c p, Agc t k e z R l c p → p = P c :=
  ⟨fun c => Classical.epsilon fun p => Agc t k e z R l c p, fun _ p h => h.alone (xsL_bb z) (Classical.epsilon_spec ⟨p, h⟩)⟩
section
variable {n t k e R C D m c : Nat} {z : List Int} {l : Nat → List Nat}
theorem agc_yes (h : Eno n t k e (C : Int) z R l) (hn : n ≤ 254) (hR : R ≤ 255) (hD : t + k = D + 1) (htk : t + k ≤ 255) (he : e ≤ 255) {r : List Nat} (hr : r ∈ pk (D + 1) (xsL z).length) (h1 : D + 1 + e ≤ m) (h2 : R - e ≤ m)
    (hm : m ≤ agrTo (pthr (xsL z) (colR l R c) r) (xsL z) (colR l R c) (xsL z).length) : Agc t k e z R l c (pthr (xsL z) (colR l R c) r) := by
  have hx : (xsL z).length = R := by rw [xsL_len, h.len]
  have hok := pthr_ok (ys := colR l R c) hr
  have hwr := wrTo_agr (pthr (xsL z) (colR l R c) r) (xsL z) (colR l R c) (xsL z).length
  exact ⟨hok.1, hok.2.1, by rw [hx, colR_len], by omega, h.xs_un hn, by omega, by omega, by omega, by omega, by have := hok.2.2; omega, by omega, by omega⟩
theorem agc_no (h : Eno n t k e (C : Int) z R l) (hl : ∀ i, i < R → BB (l i)) (hD : t + k = D + 1) (h1 : m = D + 1 + e ∨ m = R - e)
    (hm : ∀ r ∈ pk (D + 1) (xsL z).length, agrTo (pthr (xsL z) (colR l R c) r) (xsL z) (colR l R c) (xsL z).length < m) (p : List Nat) : ¬ Agc t k e z R l c p := fun a => by
  have hx : (xsL z).length = R := by rw [xsL_len, h.len]
  have hwr := wrTo_agr p (xsL z) (colR l R c) (xsL z).length
  have a1 := a.most; have a2 := a.own; have a3 := a.deg
  obtain ⟨r, hr, hre⟩ := pick_finds (s := D + 1) a.bb (xsL_bb z) (colR_bb hl c) a.un (by omega) (by omega)
  have := hm r hr
  rw [hre, a.tr_] at this
  omega
end
/-- Of the first q columns, and of column q as far as W says. -/
def badW (z : List Int) (R : Nat) (l P : Nat → List Nat) (q : Nat) (W : List Nat) (h : Nat) : Bool := badB z R l P q h || W.any fun i => decide (z.getD i 0 = (h : Int))
theorem badW_nil (z : List Int) (R : Nat) (l P : Nat → List Nat) (q h : Nat) : badW z R l P q [] h = badB z R l P q h := by simp [badW]
theorem badW_one {z : List Int} {R : Nat} {l P : Nat → List Nat} {q h i g : Nat} {W : List Nat} (hg : z.getD i 0 = (g : Int)) : badW z R l P q (W ++ [i]) h = if h = g then true else badW z R l P q W h := by
  unfold badW
  rw [List.any_append, List.any_cons, List.any_nil, Bool.or_false, hg]
  by_cases e : h = g
  · subst e; simp
  · rw [if_neg e, show decide ((g : Int) = (h : Int)) = false from decide_eq_false (by omega), Bool.or_false]
theorem badW_all {z : List Int} {R : Nat} {l P : Nat → List Nat} {q h : Nat} (hz : z.length = R) : badW z R l P q (wrTo (P q) (xsL z) (colR l R q) (xsL z).length) h = badB z R l P (q + 1) h := by
  have hx : (xsL z).length = R := by rw [xsL_len, hz]
  refine Bool.eq_iff_iff.2 ?_
  unfold badW
  rw [Bool.or_eq_true, badB_iff, badB_iff, List.any_eq_true]
  constructor
  · rintro (⟨c, hc, h1⟩ | ⟨i, hi, h1⟩)
    · exact ⟨c, by omega, h1⟩
    · rw [wrTo_iff, hx] at hi
      exact ⟨q, by omega, i, hi.1, of_decide_eq_true h1, by rw [← colR_at hi.1]; exact hi.2⟩
  · rintro ⟨c, hc, i, hi, h1, h2⟩
    by_cases e : c = q
    · subst e
      exact .inr ⟨i, by rw [wrTo_iff, hx, colR_at hi]; exact ⟨hi, h2⟩, decide_eq_true h1⟩
    · exact .inl ⟨c, by omega, i, hi, h1, h2⟩
theorem wrongL_succ {h R q : Nat} {z : List Int} {l P : Nat → List Nat} : wrongL (h + 1) z R l P q = if badB z R l P q h then wrongL h z R l P q ++ [h] else wrongL h z R l P q := by
  unfold wrongL
  rw [List.range_succ, List.filter_append]
  cases e : badB z R l P q h <;> simp [e]
end Pol
namespace Go.Proofs.Ytgikgnhpplmljaa
open Go.RowKit Go.Shelf Gw Pol
theorem ragreed' (A A' : Option Addr) (c c' n1 n2 : Nat) (xs ys : List Nat) (D m : Nat) (w : World) (h1 : n1 = xs.length) (h2 : n2 = ys.length) (hI : In w w.heap.size A c xs) (hI' : In w w.heap.size A' c' ys) (he : xs.length = ys.length) (hl : xs.length ≤ 20) (hD : D ≤ 255) :
    Calls Try.prog 34 #[.slice A n1 c, .slice A' n2 c', .int .i64 (D : Int), .int .i64 (m : Int)] w (AgAns (D + 1) xs ys m w) := by
  subst h1 h2; exact ragreed_any A A' c c' xs ys D m w hI hI' he hl hD
theorem rwrong' (A A1 A2 : Option Addr) (c c1 c2 n0 n1 n2 nw : Nat) (p xs ys : List Nat) (w : World) (h0 : n0 = p.length) (h1 : n1 = xs.length) (h2 : n2 = ys.length) (h3 : nw = (wrTo p xs ys xs.length).length) (hp : In w w.heap.size A c p) (hx : In w w.heap.size A1 c1 xs) (hy : In w w.heap.size A2 c2 ys) (hl : xs.length ≤ ys.length) (hcm : p.length ≤ 140737488355328) (hcm2 : xs.length ≤ 1073741824) :
    Calls Try.prog 35 #[.slice A n0 c, .slice A1 n1 c1, .slice A2 n2 c2] w fun e w' => ∃ A3 c3, e = .returned (.slice A3 nw c3) ∧ OwnJ w' w.heap.size 3 A3 c3 (wrTo p xs ys xs.length) ∧ Below w.heap.size w w' := by
  subst h0 h1 h2 h3; exact rwrong_any A A1 A2 c c1 c2 p xs ys w hp hx hy hl hcm hcm2
/-- What Find answers. -/
def FdYes (n t k e C : Nat) (z : List Int) (R : Nat) (l : Nat → List Nat) (en : Ending) (w' : World) : Prop :=
  ∃ (P : Nat → List Nat) (A2 : Option Addr) (c2 : Nat) (pa : Nat → Option Addr) (cp : Nat → Nat) (A3 : Option Addr) (c3 : Nat), en = .returned (.tuple #[.slice A2 C c2, .slice A3 (wrongL n z R l P C).length c3, .bool true]) ∧ Fnd n t k e C z R l P ∧ MIn w' w'.heap.size A2 c2 C pa cp P ∧ InJ w' A3 c3 (wrongL n z R l P C)
def FdNo (n t k e C : Nat) (z : List Int) (R : Nat) (l : Nat → List Nat) (en : Ending) : Prop := Fno n t k e C z R l ∧ ∃ A2 c2 A3 c3, en = .returned (.tuple #[.slice A2 0 c2, .slice A3 0 c3, .bool false])
def FdAns (n t k e C : Nat) (z : List Int) (R : Nat) (l : Nat → List Nat) (w : World) (en : Ending) (w' : World) : Prop := (FdYes n t k e C z R l en w' ∨ FdNo n t k e C z R l en) ∧ Below w.heap.size w w'
end Go.Proofs.Ytgikgnhpplmljaa
end
section
/- More predicates that growth bears: a field, rows that are read, what sharing answers. -/
namespace Go.Proofs.Ytgikgnhpplmljaa
open Go.RowKit Go.Shelf Gw Pol
def FIs : Value → World → Prop := fun v w => ∃ b, v = .pointer (some ⟨b, 0, none⟩) ∧ IsField w b
theorem FIs.mono : Gt.Mono FIs := by
  rintro v w w' ⟨b, h1, h2⟩ hg
  exact ⟨b, h1, h2.below hg h2.lt⟩
def MIs (n : Nat) (l : Nat → List Nat) : Value → World → Prop := fun v w => ∃ A c pa cp, v = .slice A n c ∧ MIn w w.heap.size A c n pa cp l
theorem MIs.mono (n : Nat) (l : Nat → List Nat) : Gt.Mono (MIs n l) := by
  rintro v w w' ⟨A, c, pa, cp, h1, h2⟩ hg
  exact ⟨A, c, pa, cp, h1, (h2.below hg).more (Below.size hg)⟩
def TIs (n : Nat) (l : Nat → List Nat) : Value → World → Prop := fun v w => ∃ A c pa cp, v = .tuple #[.slice A n c, .bool true] ∧ MIn w w.heap.size A c n pa cp l
theorem TIs.mono (n : Nat) (l : Nat → List Nat) : Gt.Mono (TIs n l) := by
  rintro v w w' ⟨A, c, pa, cp, h1, h2⟩ hg
  exact ⟨A, c, pa, cp, h1, (h2.below hg).more (Below.size hg)⟩
def ZIs : Value → World → Prop := fun v _ => ∃ A c, v = .tuple #[.slice A 0 c, .bool false]
theorem ZIs.mono : Gt.Mono ZIs := by
  rintro v w w' ⟨A, c, h1⟩ _
  exact ⟨A, c, h1⟩
def EIs : Value → World → Prop := fun v _ => ∃ A c, v = .slice A 0 c
theorem EIs.mono : Gt.Mono EIs := by
  rintro v w w' ⟨A, c, h1⟩ _
  exact ⟨A, c, h1⟩
def LIs (n : Nat) : Value → World → Prop := fun v _ => ∃ A c, v = .slice A n c
theorem LIs.mono (n : Nat) : Gt.Mono (LIs n) := by
  rintro v w w' ⟨A, c, h1⟩ _
  exact ⟨A, c, h1⟩
def SIs (n : Nat) (l : List Nat) : Value → World → Prop := fun v w => ∃ A c, v = .tuple #[.slice A n c, .bool true] ∧ In w w.heap.size A c l
theorem SIs.mono (n : Nat) (l : List Nat) : Gt.Mono (SIs n l) := by
  rintro v w w' ⟨A, c, h1, h2⟩ hg
  exact ⟨A, c, h1, (h2.below hg).more (Below.size hg)⟩
/-- A loop over all holders, in which worlds grow. -/
def LpRel (wL : World) (n : Nat) (i : Value) (wr : World) : Prop := ∃ h : Nat, h ≤ n ∧ i = .int .i64 (h : Int) ∧ Below wL.heap.size wL wr
theorem goodB_mk {n t k e r : Nat} (h1 : 1 ≤ t) (h2 : 1 ≤ k) (h3 : 1 ≤ r) (h4 : r ≤ 512) (h5 : t + k + 2 * e ≤ n) (h6 : n + k ≤ 255) : goodB n t k e r = true := decide_eq_true (by omega)
end Go.Proofs.Ytgikgnhpplmljaa
end
section
/- What open's Open and At answer; literals of ints and of rows; the statements' first look in numbers. -/
namespace Gw
open Go Go.RowKit Go.Shelf
theorem InZ.lit (w : World) (t : TypeId) (z : List Int) (cs : Array Value) (hc : cs = (z.map fun x => Value.int .i64 x).toArray) (hz : ∀ x ∈ z, (Lit.int .i64 x).wf = true) : InZ (w.alloc (.cells cs t)) (w.heap.size + 1) (some ⟨w.heap.size, 0, none⟩) z.length z := by
  subst hc
  refine ⟨fun i x hx => ⟨hz x (List.mem_of_getElem? hx), w.heap.size, 0, rfl, Nat.lt_succ_self _, ?_⟩, Nat.le_refl _, fun h => by cases h⟩
  rw [Nat.zero_add, World.cell?_alloc_new w _ t i]
  simp [hx]
theorem InZ.alloc {w : World} {B : Nat} {A : Option Addr} {c : Nat} {z : List Int} (h : InZ w B A c z) (hB : B ≤ w.heap.size) (o : Obj) : InZ (w.alloc o) B A c z := h.below ((Below.refl B w).alloc hB o)
theorem In.one (w : World) (e : TypeId) (y : Nat) (hy : y < 256) : In (w.alloc (.cells #[.int .u8 (y : Int)] e)) (w.heap.size + 1) (some ⟨w.heap.size, 0, none⟩) 1 [y] := ⟨Sl.one w e y hy, Nat.le_refl _, fun h => by cases h⟩
/-- Rows of one byte, and the slices of them in one block. -/
theorem MIn.lit {w : World} {B R : Nat} (t : TypeId) (pa : Nat → Option Addr) (cp : Nat → Nat) (l : Nat → List Nat) (cs : Array Value) (hB : B ≤ w.heap.size) (hc : ∀ i, i < R → cs[i]? = some (.slice (pa i) (l i).length (cp i))) (hI : ∀ i, i < R → In w B (pa i) (cp i) (l i)) :
    MIn (w.alloc (.cells cs t)) (w.heap.size + 1) (some ⟨w.heap.size, 0, none⟩) R R pa cp l := by
  refine ⟨fun i hi => ⟨w.heap.size, 0, rfl, Nat.lt_succ_self _, ?_, ((hI i hi).alloc hB _).more (by omega)⟩, Nat.le_refl _, fun h => by cases h⟩
  rw [Nat.zero_add, World.cell?_alloc_new w _ t i]
  exact hc i hi
end Gw
namespace Go.Proofs.Ytgikgnhpplmljaa
open Go.RowKit Go.Shelf Gw Pol
def OpYes (n t k e size : Nat) (z : List Int) (R : Nat) (l : Nat → List Nat) (en : Ending) (w' : World) : Prop :=
  ∃ (P : Nat → List Nat) (A2 : Option Addr) (c2 : Nat) (A3 : Option Addr) (c3 : Nat), en = .returned (.tuple #[.slice A2 size c2, .slice A3 (wrongL n z R l P (Sp.cnt size k)).length c3, .bool true]) ∧ Fnd n t k e (Sp.cnt size k) z R l P ∧ In w' w'.heap.size A2 c2 (docL n k size P) ∧ InJ w' A3 c3 (wrongL n z R l P (Sp.cnt size k))
def OpAns (n t k e size : Nat) (z : List Int) (R : Nat) (l : Nat → List Nat) (w : World) (en : Ending) (w' : World) : Prop := (OpYes n t k e size z R l en w' ∨ FdNo n t k e (Sp.cnt size k) z R l en) ∧ Below w.heap.size w w'
def AtAns (n t k e C g : Nat) (z : List Int) (R : Nat) (l : Nat → List Nat) (w : World) (en : Ending) (w' : World) : Prop :=
  ((∃ (P : Nat → List Nat) (A2 : Option Addr) (c2 : Nat), en = .returned (.tuple #[.slice A2 C c2, .bool true]) ∧ Fnd n t k e C z R l P ∧ In w' w'.heap.size A2 c2 (shRow P C g)) ∨ (Fno n t k e C z R l ∧ ∃ A2 c2, en = .returned (.tuple #[.slice A2 0 c2, .bool false]))) ∧ Below w.heap.size w w'
/-- The five shares of the statements' first look. -/
def l11 (i : Nat) : List Nat := if i = 2 then [8] else [7]
theorem l11_len (i : Nat) : (l11 i).length = 1 := by unfold l11; split <;> rfl
theorem ev_k (x a : Nat) : ev x [a] = a := by simp [ev, Gf.gm_zero_right]
theorem a11_wr : wrTo [7] (xsL [0, 1, 2, 3, 4]) (colR l11 5 0) 5 = [2] := by decide +kernel
theorem a11_yes : Fnd 5 1 1 1 1 [0, 1, 2, 3, 4] 5 l11 (fun _ => [7]) := by
  have he : Eno 5 1 1 1 (1 : Nat) [0, 1, 2, 3, 4] 5 l11 := ⟨rfl, by simp, by omega, fun x hx => by simp at hx; omega, by simp, fun i _ => by rw [l11_len]⟩
  refine ⟨he, fun c hc => ?_⟩
  obtain rfl : c = 0 := by omega
  have hx : (xsL [0, 1, 2, 3, 4]).length = 5 := rfl
  exact ⟨BB.cons (by omega) BB.nil, rfl, rfl, by rw [hx]; omega, he.xs_un (by omega), by omega, by omega, by omega, by omega, by simp, by rw [hx, a11_wr]; simp, by rw [hx, a11_wr]; simp⟩
theorem a11_wrong : wrongL 5 [0, 1, 2, 3, 4] 5 l11 (fun _ => [7]) 1 = [2] := by decide +kernel
theorem a11_doc : docL 5 1 1 (fun _ => [7]) = [7] := by
  have : docL 5 1 1 (fun _ => [7]) = [ev 6 [7]] := rfl
  rw [this, ev_k]
theorem a11_no : Fno 5 1 1 1 (1 : Nat) [0, 1, 2] 3 l11 := by
  refine .inr ⟨0, by omega, fun p a => ?_⟩
  have hx : (xsL [0, 1, 2]).length = 3 := rfl
  have a1 := a.own; have a2 := a.deg
  rw [hx] at a1
  have hw : wrTo p (xsL [0, 1, 2]) (colR l11 3 0) 3 = [] := List.eq_nil_of_length_eq_zero (by omega)
  have ho : ∀ j, j < 3 → ev (co (xsL [0, 1, 2]) j) p = co (colR l11 3 0) j := fun j hj => by
    rcases wrTo_mem p (xsL [0, 1, 2]) (colR l11 3 0) 3 j hj with h | h
    · exact h
    · rw [hw] at h; cases h
  have h0 : ev 1 p = 7 := ho 0 (by omega)
  have h1 : ev 2 p = 7 := ho 1 (by omega)
  have h2 : ev 3 p = 8 := ho 2 (by omega)
  have hp : p = [7] := by
    refine agr_alone (xs := [1, 2]) (ys := [7, 7]) (D := 2) a.bb (BB.cons (by omega) BB.nil) a.tr_ rfl (BB.cons (by omega) (BB.cons (by omega) BB.nil)) (by simp) (by omega) (by simp) ?_
    have g1 : agrTo p [1, 2] [7, 7] 2 = 2 := by
      show (if ev 2 p = 7 then (if ev 1 p = 7 then 0 + 1 else 0) + 1 else (if ev 1 p = 7 then 0 + 1 else 0)) = 2
      rw [if_pos h1, if_pos h0]
    have g2 : agrTo [7] [1, 2] [7, 7] 2 = 2 := by
      show (if ev 2 [7] = 7 then (if ev 1 [7] = 7 then 0 + 1 else 0) + 1 else (if ev 1 [7] = 7 then 0 + 1 else 0)) = 2
      rw [if_pos (ev_k 2 7), if_pos (ev_k 1 7)]
    show 2 + 2 ≤ agrTo p [1, 2] [7, 7] 2 + agrTo [7] [1, 2] [7, 7] 2
    rw [g1, g2]; exact Nat.le_refl _
  rw [hp, ev_k] at h2
  omega
end Go.Proofs.Ytgikgnhpplmljaa
end
section
/- The statements' own good (package shamrocklaw11); what Find answers where there is something, and where there is nothing; predicates of it that growth bears. -/
namespace Gw
open Go Go.RowKit Go.Shelf
theorem MIn.congr {W : World} {B c R : Nat} {A : Option Addr} {A' : Nat → Option Addr} {c' : Nat → Nat} {l m : Nat → List Nat} (h : MIn W B A c R A' c' l) (e : ∀ i, i < R → l i = m i) : MIn W B A c R A' c' m :=
  ⟨fun i hi => by
    obtain ⟨b, off, h1, h2, h3, h4⟩ := h.rd i hi
    rw [e i hi] at h3 h4
    exact ⟨b, off, h1, h2, h3, h4⟩, h.cap, h.none_⟩
end Gw
namespace Go.Proofs.Ytgikgnhpplmljaa
open Go.RowKit Go.Shelf Gw Pol
def JIs (n : Nat) (L : List Nat) : Value → World → Prop := fun v w => ∃ A c, v = .slice A n c ∧ InJ w A c L
theorem JIs.mono (n : Nat) (L : List Nat) : Gt.Mono (JIs n L) := by
  rintro v w w' ⟨A, c, h1, h2⟩ hg
  exact ⟨A, c, h1, h2.below hg⟩
def T3Is (C nw : Nat) (P : Nat → List Nat) (L : List Nat) : Value → World → Prop := fun v w => ∃ A c pa cp A' c', v = .tuple #[.slice A C c, .slice A' nw c', .bool true] ∧ MIn w w.heap.size A c C pa cp P ∧ InJ w A' c' L
theorem T3Is.mono (C nw : Nat) (P : Nat → List Nat) (L : List Nat) : Gt.Mono (T3Is C nw P L) := by
  rintro v w w' ⟨A, c, pa, cp, A', c', h1, h2, h3⟩ hg
  exact ⟨A, c, pa, cp, A', c', h1, (h2.below hg).more (Below.size hg), h3.below hg⟩
def O3Is (size nw : Nat) (d L : List Nat) : Value → World → Prop := fun v w => ∃ A c A' c', v = .tuple #[.slice A size c, .slice A' nw c', .bool true] ∧ In w w.heap.size A c d ∧ InJ w A' c' L
theorem O3Is.mono (size nw : Nat) (d L : List Nat) : Gt.Mono (O3Is size nw d L) := by
  rintro v w w' ⟨A, c, A', c', h1, h2, h3⟩ hg
  exact ⟨A, c, A', c', h1, (h2.below hg).more (Below.size hg), h3.below hg⟩
def Z3Is : Value → World → Prop := fun v _ => ∃ A c A' c', v = .tuple #[.slice A 0 c, .slice A' 0 c', .bool false]
theorem Z3Is.mono : Gt.Mono Z3Is := by
  rintro v w w' ⟨A, c, A', c', h1⟩ _
  exact ⟨A, c, A', c', h1⟩
section
variable {n t k e C R nw size : Nat} {z : List Int} {l P : Nat → List Nat} {w w' : World} {en : Ending}
theorem fd_yes (h : FdAns n t k e C z R l w en w') (hF : Fnd n t k e C z R l P) (hnw : nw = (wrongL n z R l P C).length) : ∃ v, en = .returned v ∧ T3Is C nw P (wrongL n z R l P C) v w' ∧ Below w.heap.size w w' := by
  obtain ⟨⟨Q, A2, c2, pa, cp, A3, c3, rfl, h1, h2, h3⟩ | ⟨h1, _⟩, hb⟩ := h
  · have hq : ∀ c, c < C → Q c = P c := fun c hc => h1.alone hF hc
    rw [wrongL_congr hq] at h3 ⊢
    exact ⟨_, rfl, ⟨A2, c2, pa, cp, A3, c3, by rw [hnw], h2.congr hq, h3⟩, hb⟩
  · exact absurd h1 hF.not
theorem fd_no (h : FdAns n t k e C z R l w en w') (hF : ¬ ∃ P, Fnd n t k e C z R l P) : ∃ v, en = .returned v ∧ Z3Is v w' ∧ Below w.heap.size w w' := by
  obtain ⟨⟨Q, A2, c2, pa, cp, A3, c3, _, h1, _⟩ | ⟨_, A2, c2, A3, c3, rfl⟩, hb⟩ := h
  · exact absurd ⟨Q, h1⟩ hF
  · exact ⟨_, rfl, ⟨A2, c2, A3, c3, rfl⟩, hb⟩
theorem op_yes (h : OpAns n t k e size z R l w en w') (hk : 0 < k) (hF : Fnd n t k e (Sp.cnt size k) z R l P) (hnw : nw = (wrongL n z R l P (Sp.cnt size k)).length) : ∃ v, en = .returned v ∧ O3Is size nw (docL n k size P) (wrongL n z R l P (Sp.cnt size k)) v w' ∧ Below w.heap.size w w' := by
  obtain ⟨⟨Q, A2, c2, A3, c3, rfl, h1, h2, h3⟩ | ⟨h1, _⟩, hb⟩ := h
  · have hq : ∀ c, c < Sp.cnt size k → Q c = P c := fun c hc => h1.alone hF hc
    rw [wrongL_congr hq] at h3 ⊢
    rw [docL_congr hk hq] at h2
    exact ⟨_, rfl, ⟨A2, c2, A3, c3, by rw [hnw], h2, h3⟩, hb⟩
  · exact absurd h1 hF.not
theorem op_no (h : OpAns n t k e size z R l w en w') (hF : ¬ ∃ P, Fnd n t k e (Sp.cnt size k) z R l P) : ∃ v, en = .returned v ∧ Z3Is v w' ∧ Below w.heap.size w w' := by
  obtain ⟨⟨Q, A2, c2, A3, c3, _, h1, _⟩ | ⟨_, A2, c2, A3, c3, rfl⟩, hb⟩ := h
  · exact absurd ⟨Q, h1⟩ hF
  · exact ⟨_, rfl, ⟨A2, c2, A3, c3, rfl⟩, hb⟩
end
theorem ogood_any (N T K E R : Int) (A : Option Addr) (M c : Nat) (w : World) :
    Calls Try.prog 8 #[pv N T K E R, .slice A M c] w fun e w' => e = .returned (.bool (goodB N T K E R && decide (M ≤ 9) && decide (N ≤ 30))) ∧ Below w.heap.size w w' := by
  obtain ⟨w1, hw1⟩ : ∃ w1, w1 = w.alloc (.cells #[.int .i64 N, .int .i64 T, .int .i64 K, .int .i64 E, .int .i64 R] 23) := ⟨_, rfl⟩
  have hb1 : Below w.heap.size w w1 := by rw [hw1]; exact (Below.refl _ w).alloc (Nat.le_refl _) _
  have HPB : Hid (Pbx w1 w.heap.size N T K E R) := Lib.hid (by rw [hw1]; exact Pbx.new w _ _ _ _ _ _)
  have HB1 := Lib.hid hb1
  have HG := Lib.hid (rgood_any N T K E R w1)
  obtain ⟨c0, c1, c2, c3, c4⟩ := HPB.out
  rw [hw1] at c0 c1 c2 c3 c4
  clear hb1
  cases hg : goodB N T K E R with
  | false =>
    rw [hg] at HG
    clear hg
    go_enter Try.func8, Try.ntmps8
    go_wp2_with fail
    rw [← hw1]
    refine HG.out.mono ?_
    rintro e w2 ⟨rfl, hb2⟩
    have HB2 := Lib.hid (HB1.out.trans (hb2.mono HB1.out.size))
    clear c0 c1 c2 c3 c4 hb2 hw1 HG
    go_wp2
    go_ret
    exact ⟨rfl, HB2.out⟩
  | true =>
    rw [hg] at HG
    clear hg
    by_cases h9 : M ≤ 9
    · have h9i : (M : Int) ≤ 9 := by omega
      have e9 : decide (M ≤ 9) = true := decide_eq_true h9
      rw [e9]
      have HE : Hid (decide (N ≤ 30) = decide (N ≤ 30)) := Lib.hid rfl
      clear h9 e9 HE
      go_enter Try.func8, Try.ntmps8
      go_wp2_with fail
      rw [← hw1]
      refine HG.out.mono ?_
      rintro e w2 ⟨rfl, hb2⟩
      have HB2 := Lib.hid (HB1.out.trans (hb2.mono HB1.out.size))
      have z0 := (HPB.out.below hb2 HPB.out.lt).c0
      clear c0 c1 c2 c3 c4 hb2 hw1 HG
      go_wp2
      go_ret
      exact ⟨by simp, HB2.out⟩
    · have h9i : ¬ ((M : Int) ≤ 9) := by omega
      have e9 : decide (M ≤ 9) = false := decide_eq_false h9
      rw [e9]
      clear h9 e9
      go_enter Try.func8, Try.ntmps8
      go_wp2_with fail
      rw [← hw1]
      refine HG.out.mono ?_
      rintro e w2 ⟨rfl, hb2⟩
      have HB2 := Lib.hid (HB1.out.trans (hb2.mono HB1.out.size))
      have z0 := (HPB.out.below hb2 HPB.out.lt).c0
      clear c0 c1 c2 c3 c4 hb2 hw1 HG
      go_wp2
      go_ret
      exact ⟨rfl, HB2.out⟩
end Go.Proofs.Ytgikgnhpplmljaa
end
section
/- Columns in memory of their own. -/
namespace Gw
open Go Go.RowKit Go.Shelf
/-- What a call has made: R rows of n bytes, l i; nothing of it was there before. -/
structure Cs (w w' : World) (A : Option Addr) (c R n : Nat) (pa : Nat → Option Addr) (cp : Nat → Nat) (l : Nat → List Nat) : Prop where
  min : MIn w' w'.heap.size A c R pa cp l
  bel : Below w.heap.size w w'
  spine : ∀ g o, A = some ⟨g, o, none⟩ → 0 < R → w.heap.size ≤ g
  rows : ∀ i, i < R → ∀ b o, pa i = some ⟨b, o, none⟩ → w.heap.size ≤ b ∧ (∀ g o', A = some ⟨g, o', none⟩ → b ≠ g) ∧ ∀ j, j < n → w'.frozen? ⟨b, o + j, none⟩ = false
end Gw
end
section
/- A range over a function, no round of which leaves early: what is handed out may hang on what was handed out before, and on the world in which the round begins. -/
namespace Gq
open Go Go.RowKit

section
variable {P : Program} {n : Nat}

/-- The function's contract: where it has handed pre out, and in whatever world it hands x out, Rd pre x holds of that world. -/
def SeqPre {α : Type} (n : Nat) (P : Program) (gf : Nat) (lb : Array Value) (encs : α → Array Value) (Rd : List α → α → World → Prop) (Kp : World → World → Prop) (S : List α → Prop) (w : World) : Prop :=
  ∀ (l : Nat) (J : List α → World → Prop) (W : World), Below w.heap.size w W → (∀ s A B, J s A → A.grownBy B none → J s B) →
    (∀ pre x W1, J pre W1 → Rd pre x W1 → YieldAt Fence.wide (n - 1) P l (encs x) W1 fun e W' => e = .returned (.bool true) ∧ J (pre ++ [x]) W' ∧ Kp W1 W') →
    J [] W → CallsIn Fence.wide n P gf (#[.func (.yield l) #[] #[]] ++ lb) W fun e W' => (∃ v, e = .returned v) ∧ ∃ xs, S xs ∧ J xs W'

/-- How a round is left. -/
def prePost {α : Type} (Kp : World → World → Prop) (I : List α → World → Prop) (xs : List α) (W : World) : Exit → Act → World → Prop
  | .normal, _, W' => KeepsOthers W W' ∧ Kp W W' ∧ I xs W'
  | _, _, _ => False

theorem range_pre {α : Type} {g : Operand} {ps : Array Tmp} {assign body : Code} {Q : Exit → Act → World → Prop} {a : Act} {w : World} (h1 : 1 ≤ n) {gf : Nat} {lb : Array Value} (hg : a.eval g = .func (.func gf) #[] lb)
    (eg : ∀ args w, (callFunc gf args).run P w = .ok (.enter gf args) w) {encs : α → Array Value} {Rd : List α → α → World → Prop} {Kp : World → World → Prop} {S : List α → Prop} (hseq : SeqPre (n - 1) P gf lb encs Rd Kp S w)
    (hKt : ∀ {A B C : World}, Kp A B → Kp B C → Kp A C) (hKb : ∀ (W : World) (l : Nat) (o o' : Obj), w.heap.size ≤ l → W.heap[l]? = some o → o.isCells = false → Kp W (W.putObj l o')) (hps : ∀ x, (encs x).size = ps.size)
    (hRd : ∀ pre, OwnFrom w.heap.size (Rd pre)) (I : List α → World → Prop) (hI : OwnFrom w.heap.size I) (h0 : I [] w) (a₁ : α → Act)
    (hassign : ∀ (l : Nat) (x : α) (W : World) (K : Act → World → Prop), K (a₁ x) W →
      assign.wpIn (Fence.wide.inRound l) (n - 1 - 1) P (Exit.then K (fun _ _ _ => False)) { tmps := (ps.zip (encs x)).foldl (fun t (p, v) => t.setIfInBounds p v) a.tmps, defers := [] } W)
    (hbody : ∀ (l : Nat) (pre : List α) (x : α) (W : World), I pre W → Rd pre x W → body.wpIn (Fence.wide.inRound l) (n - 1 - 1) P (prePost Kp I (pre ++ [x]) W) (a₁ x) W)
    (hdone : ∀ (D : Nat) (xs : List α) (W : World), w.heap.size ≤ D → S xs → I xs W → W.heap[D]? = some (.deferred (some [])) → Q .normal { a with defers := { target := .collected D, args := #[] } :: a.defers } W) :
    (Code.rangeFunc g ps assign body).wpIn Fence.wide n P Q a w := by
  refine wpIn_rangeFunc fun fn hfn => ?_
  obtain ⟨rc, hrc⟩ : ∃ rc : LoopState → Option Code → Loop, rc = fun st pe => { state := st, pending := pe, fn, tmps := a.tmps, params := ps, assign, body, defers := w.heap.size } := ⟨_, rfl⟩
  obtain ⟨W1, hW1⟩ : ∃ W1, W1 = (w.alloc (.deferred (some []))).alloc (.loop (rc .ready none)) := ⟨_, rfl⟩
  have hsz : W1.heap.size = w.heap.size + 2 := by rw [hW1]; simp
  have hL1 : W1.heap[w.heap.size + 1]? = some (.loop (rc .ready none)) := by
    have := World.alloc_heap_new (w.alloc (.deferred (some []))) (.loop (rc .ready none)); rw [World.size_alloc] at this; rw [hW1]; exact this
  have hK1 : W1.heap[w.heap.size]? = some (.deferred (some [])) := by
    rw [hW1]; exact (Below.heap_alloc _ _ _ (by simp)).trans (World.alloc_heap_new w _)
  have hI1 : I [] W1 := by rw [hW1]; exact hI.alloc _ (hI.alloc _ h0)
  have hb1 : Below w.heap.size w W1 := by rw [hW1]; exact ((Below.refl _ w).alloc (Nat.le_refl _) _).alloc (by simp) _
  refine ⟨w.heap.size + 1, [{ target := .collected w.heap.size, args := #[] }], W1, { target := .fn (.func gf) lb, args := #[.func (.yield (w.heap.size + 1)) #[] #[]] }, W1, gf, #[.func (.yield (w.heap.size + 1)) #[] #[]] ++ lb, W1, ?_, ?_, ?_, ?_, fun _ => h1, ?_⟩
  · rw [hW1, hrc]; exact run_enterLoop_outer _ _ _ _ _
  · simp only [resolve, hg]; simp [go_sem]
  · intro _ _; exact trivial
  · simp [invoke, go_sem, eg]
  · have fin : ∀ W3 : World, W3.heap[w.heap.size + 1]? = some (.loop { rc .ready none with state := .busy }) → (Instr.endRound (w.heap.size + 1) none).run P W3 = .ok (.bool true) (W3.putObj (w.heap.size + 1) (.loop (rc .ready none))) := fun W3 h3 => by
      have := run_endRound (P := P) none h3
      rw [hrc] at this ⊢
      exact this
    refine (hseq (w.heap.size + 1) (fun pre W => I pre W ∧ W.heap[w.heap.size + 1]? = some (.loop (rc .ready none)) ∧ W.heap[w.heap.size]? = some (.deferred (some []))) W1 hb1 ?_ ?_ ⟨hI1, hL1, hK1⟩).mono ?_
    · rintro s A B ⟨h2, h3, h4⟩ hgr
      refine ⟨hI s A B none h2 hgr (fun r e => by cases e), ?_, ?_⟩
      · exact (hgr.block _ (Array.getElem?_eq_some_iff.1 h3).1 (by simp)).trans h3
      · exact (hgr.block _ (Array.getElem?_eq_some_iff.1 h4).1 (by simp)).trans h4
    · rintro pre x W ⟨hi, hl, hk⟩ hrd
      have hlt := (Array.getElem?_eq_some_iff.1 hl).1
      have hy := run_yield (P := P) (args := encs x) hl (by rw [hrc]; exact hps x)
      rw [hrc] at hy
      obtain ⟨W2, hW2⟩ : ∃ W2, W2 = W.putObj (w.heap.size + 1) (.loop { rc .ready none with state := .busy }) := ⟨_, rfl⟩
      have hl2 : W2.heap[w.heap.size + 1]? = some (.loop { rc .ready none with state := .busy }) := by rw [hW2]; exact World.putObj_heap_same hlt
      have hk2 : W2.heap[w.heap.size]? = some (.deferred (some [])) := by rw [hW2]; exact (World.putObj_heap_other (by omega)).trans hk
      have hq2 : Kp W W2 := by rw [hW2]; exact hKb _ _ _ _ (by omega) hl rfl
      have hi2 : I pre W2 := by rw [hW2]; exact hI.putObj _ hi (by omega) hl rfl
      have hr2 : Rd pre x W2 := by rw [hW2]; exact (hRd pre).putObj _ hrd (by omega) hl rfl
      refine ⟨fn, _, assign, body, hy, roundIn_of_wpIn hfn (hassign _ x W _ ⟨W2, by rw [hW2]; exact run_beginRound hl (by rw [hrc]), ?_⟩)⟩
      refine wpIn_mono (hbody _ pre x W2 hi2 hr2) ?_
      intro e a3 W3 hp
      cases e with
      | normal =>
        obtain ⟨hk3, hq3, hi3⟩ := hp
        have hl3 := hk3.same _ _ hl2 rfl
        have hk4 := hk3.same _ _ hk2 rfl
        refine ⟨_, _, fin W3 hl3, rfl, ⟨hI.putObj _ hi3 (by omega) hl3 rfl, World.putObj_heap_same (Array.getElem?_eq_some_iff.1 hl3).1, (World.putObj_heap_other (by omega)).trans hk4⟩, hKt (hKt hq2 hq3) (hKb _ _ _ _ (by omega) hl3 rfl)⟩
      | _ => exact hp.elim
    · rintro e W2 ⟨⟨v, rfl⟩, xs, hS, hi, hl, hk⟩
      exact ⟨none, _, by have := run_endLoop (P := P) hl (by rw [hrc]; simp); rw [hrc] at this; exact this, hdone _ xs _ (Nat.le_refl _) hS (hI.putObj _ hi (by omega) hl rfl) ((World.putObj_heap_other (by omega)).trans hk)⟩
end
end Gq
end
