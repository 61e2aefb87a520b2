/- What the definition's own Agreed (package shamrockref01) does: of all ways to pick d + 1 points the first whose polynomial has so many of the values; or that there is none. -/
import Derived.Test.YtmcfkgjkfceomaaAgh
import Derived.Test.YtmcfkgjkfceomaaRpd
namespace Gw
theorem Own.row1 {w : Go.World} {base n : Nat} {e : Go.TypeId} {A : Option Go.Addr} {c : Nat} {l : List Nat} (h : Own w base e A c l) (hn : n = l.length) : w.ownsRow base e 1 (.slice A n c) n (bys l) := by subst hn; exact h.1
end Gw
namespace Go.Proofs.Ytmcfkgjkfceomaa
open Go.RowKit Go.Shelf Gw Pol

/-- What Agreed answers. -/
def AgAns (s : Nat) (xs ys : List Nat) (m : Nat) (w : World) (e : Ending) (w' : World) : Prop :=
  ((∃ (r : List Nat) (A : Option Addr) (c : Nat), r ∈ pk s xs.length ∧ e = .returned (.tuple #[.slice A (pthr xs ys r).length c, .bool true]) ∧ m ≤ agrTo (pthr xs ys r) xs ys xs.length ∧ Gw.Own w' w.heap.size 5 A c (pthr xs ys r)) ∨
    (e = .returned (.tuple #[.slice none 0 0, .bool false]) ∧ ∀ r ∈ pk s xs.length, agrTo (pthr xs ys r) xs ys xs.length < m)) ∧ Below w.heap.size w w'
def AgO (w1 : World) (xs ys : List Nat) (m : Nat) (R : List Jr) (i : Value) (wr : World) : Prop :=
  ∃ k : Nat, k ≤ R.length ∧ i = .int .i64 (k : Int) ∧ (∀ r ∈ (R.take k).map Jr.l, agrTo (pthr xs ys r) xs ys xs.length < m) ∧ Below w1.heap.size w1 wr
def AgI (w1 : World) (xs ys r : List Nat) (a b i : Value) (wr : World) : Prop :=
  ∃ (j : Nat) (Aa Ab : Option Addr) (ca cb : Nat), j ≤ r.length ∧ i = .int .i64 (j : Int) ∧ a = .slice Aa j ca ∧ b = .slice Ab j cb ∧ AB w1.heap.size 5 wr Aa ca (pts xs (r.take j)) Ab cb (pts ys (r.take j)) ∧ Below w1.heap.size w1 wr
theorem pts_take {l r : List Nat} {j x : Nat} (hx : r[j]? = some x) : pts l (r.take (j + 1)) = pts l (r.take j) ++ [co l x] := by
  unfold pts; rw [← take_snoc hx, List.map_append]; rfl

set_option maxRecDepth 100000 in
set_option maxHeartbeats 8000000 in
theorem ragreed_any (A A' : Option Addr) (c c' : Nat) (xs ys : List Nat) (D m : Nat) (w : World) (hI : In w w.heap.size A c xs) (hI' : In w w.heap.size A' c' ys) (he : xs.length = ys.length) (hl : xs.length ≤ 20) (hD : D ≤ 255) :
    Calls Try.prog 12 #[.slice A xs.length c, .slice A' ys.length c', .int .i64 (D : Int), .int .i64 (m : Int)] w (AgAns (D + 1) xs ys m w) := by
  obtain ⟨i0, hi0, hz0, hz1, hz2⟩ := info_parts pbyte_info
  have hcap := hI.cap
  have hcap' := hI'.cap
  have hD1 : (D : Int) + 1 = ((D + 1 : Nat) : Int) := by omega
  have T := Lib.hid (picks_any (D + 1) xs.length w hl (by omega))
  rw [← hD1] at T
  have HE := Lib.hid he
  rw [← he]
  rw [← he] at hcap'
  clear he hD1
  go_enter Try.func12, Try.ntmps12
  go_wp2_with fail
  refine T.out.mono ?_
  rintro e w1 ⟨v, R, rfl, hR, hG, hb1⟩
  obtain ⟨Al, cl, rfl, hcl, hcln⟩ := hG.shape
  have hRl : R.length ≤ 2 ^ xs.length := by have h := congrArg List.length hR; rw [List.length_map] at h; rw [h]; exact pk_len _ _
  have hRb : R.length ≤ 1048576 := Nat.le_trans hRl (Nat.pow_le_pow_right (by omega) hl)
  have HR := Lib.hid hR
  have HG := Lib.hid hG
  have hb1s := hb1.size
  clear hR hG hRl T
  go_wp2
  go_loopw [11] (AgO w1 xs ys m R) (fun i _ => R.length - (intOf i).toNat)
  case atStart => exact ⟨0, Nat.zero_le _, rfl, fun r hr => by simp at hr, Below.refl _ _⟩
  case round =>
    obtain ⟨k, hk, rfl, hno, hbel0⟩ := hrel
    by_cases hkR : k < R.length
    · have hG4 := HG.out.kept hbel0
      obtain ⟨gq, cq2, hvq, hcq2, _, _, hcell⟩ := hG4.at_ hkR
      injection hvq with hA1 _ hA2
      subst hA1 hA2
      obtain ⟨r, hr⟩ : ∃ r, r = R[k] := ⟨_, rfl⟩
      have hrow := HG.out.row R[k] (List.getElem_mem hkR)
      have hgl : gq < w1.heap.size := by
        obtain ⟨g9, c9, h9, _, _, _, h10⟩ := HG.out.at_ hkR
        injection h9 with h9
        injection h9 with h9
        injection h9 with h9
        subst h9
        exact cell_lt h10
      have hcell1 : w1.cell? ⟨gq, k, none⟩ = some (jv R[k]) := (hbel0.cell (p := ⟨gq, k, none⟩) hgl).symm.trans hcell
      have hmem : R[k].l ∈ pk (D + 1) xs.length := by rw [← HR.out]; exact List.mem_map.2 ⟨R[k], List.getElem_mem hkR, rfl⟩
      rw [← hr] at hrow hcell1 hmem hcell
      obtain ⟨gr, cr, rl⟩ := r
      have hcr := hrow.inn.cap
      dsimp only at hcr hmem hrow
      have hcell2 : w1.cell? ⟨gq, k, none⟩ = some (.slice (some ⟨gr, 0, none⟩) rl.length cr) := hcell1
      have hcell3 : wr.cell? ⟨gq, k, none⟩ = some (.slice (some ⟨gr, 0, none⟩) rl.length cr) := hcell
      have hsnd := pk_sound (D + 1) xs.length rl hmem
      have HTK := Lib.hid (show ((R.take (k + 1)).map Jr.l) = ((R.take k).map Jr.l) ++ [rl] by rw [List.take_add_one, List.getElem?_eq_getElem hkR, ← hr, List.map_append]; rfl)
      have HMEM := Lib.hid hmem
      have HSND := Lib.hid hsnd
      have hrll : rl.length ≤ 256 := by have := hsnd.1; omega
      have HROW := Lib.hid hrow
      have HNO := Lib.hid hno
      have hb0s := hbel0.size
      clear hr hrow hG4 hcell hcell1 hmem hsnd hno
      go_wp2
      go_loopw [12, 13, 14] (AgI w1 xs ys rl) (fun _ _ i _ => rl.length - (intOf i).toNat)
      case atStart => exact ⟨0, none, none, 0, 0, Nat.zero_le _, rfl, rfl, rfl, AB.start _ _ _, hbel0⟩
      case round =>
        clear hcell3 hbel0 hb0s
        obtain ⟨j, Aa, Ab, ca, cb, hj, rfl, rfl, rfl, hAB, hbel⟩ := hrel
        have hbs := hbel.size
        have hc1 := (hbel.cell (p := ⟨gq, k, none⟩) hgl).trans hcell2
        by_cases hjr : j < rl.length
        · obtain ⟨x, hx⟩ : ∃ x, rl[j]? = some x := ⟨rl[j], List.getElem?_eq_getElem hjr⟩
          have hxn : x < xs.length := HSND.out.2.1 x (List.mem_of_getElem? hx)
          have hxn' : (x : Int) < (xs.length : Int) := by omega
          obtain ⟨g9, hg9, _, hcr1⟩ := HROW.out.at_ hx
          injection hg9 with hg9
          injection hg9 with hg9
          subst hg9
          have hgrl : gr < w1.heap.size := cell_lt hcr1
          obtain ⟨vx, bx, ox, hvx1, hvx, rfl, hbx, hcx⟩ := hI.sl.at_ hxn
          obtain ⟨vy, by', oy, hvy1, hvy, rfl, hby, hcy⟩ := hI'.sl.at_ (k := x) (by rw [← HE.out]; exact hxn)
          have HC : Hid (∀ w', Below w1.heap.size w1 w' → w'.cell? ⟨gq, k, none⟩ = some (.slice (some ⟨gr, 0, none⟩) rl.length cr) ∧ w'.cell? ⟨gr, j, none⟩ = some (.int .i64 (x : Int)) ∧ w'.cell? ⟨bx, ox + x, none⟩ = some (.int .u8 (vx : Int)) ∧ w'.cell? ⟨by', oy + x, none⟩ = some (.int .u8 (vy : Int))) := Lib.hid (fun w' hb =>
            ⟨(hb.cell (p := ⟨gq, k, none⟩) hgl).trans hcell2, (hb.cell (p := ⟨gr, j, none⟩) hgrl).trans hcr1, (hb.cell (p := ⟨bx, ox + x, none⟩) (by show bx < _; omega)).trans ((hb1.cell (p := ⟨bx, ox + x, none⟩) hbx).trans hcx), (hb.cell (p := ⟨by', oy + x, none⟩) (by show by' < _; omega)).trans ((hb1.cell (p := ⟨by', oy + x, none⟩) hby).trans hcy)⟩)
          obtain ⟨la, hla⟩ : ∃ la, la = pts xs (rl.take j) := ⟨_, rfl⟩
          obtain ⟨lb, hlb⟩ : ∃ lb, lb = pts ys (rl.take j) := ⟨_, rfl⟩
          have hlal : la.length = j := by rw [hla, pts_len, List.length_take]; omega
          have hlbl : lb.length = j := by rw [hlb, pts_len, List.length_take]; omega
          have HNA := Lib.hid hlal.symm
          have HNB := Lib.hid hlbl.symm
          have HLA := Lib.hid (show (la ++ [vx]).length = j + 1 by rw [List.length_append, hlal]; rfl)
          have HLB := Lib.hid (show (lb ++ [vy]).length = j + 1 by rw [List.length_append, hlbl]; rfl)
          have HPA := Lib.hid (show pts xs (rl.take (j + 1)) = la ++ [vx] by rw [pts_take hx, hla, co_of' hvx1])
          have HPB := Lib.hid (show pts ys (rl.take (j + 1)) = lb ++ [vy] by rw [pts_take hx, hlb, co_of' hvy1])
          rw [← hla, ← hlb] at hAB
          have HAB := Lib.hid hAB
          clear hAB hla hlb hx hcx hcy hvx1 hvy1 hcr1
          go_wp2
          go_region_held_law (fun w' => w'.cell? ⟨gq, k, none⟩ = some (.slice (some ⟨gr, 0, none⟩) rl.length cr) ∧ w'.cell? ⟨gr, j, none⟩ = some (.int .i64 (x : Int)) ∧ w'.cell? ⟨bx, ox + x, none⟩ = some (.int .u8 (vx : Int)) ∧ w'.cell? ⟨by', oy + x, none⟩ = some (.int .u8 (vy : Int)))
            (first | exact HC.out _ (Gw.Below.drewN hbel 1) | exact HC.out _ (Gw.Below.drewN (hbel.alloc hbs _) 1) | exact HC.out _ (Gw.Below.drewN ((hbel.alloc hbs _).alloc (by rw [World.size_alloc]; omega) _) 1) | exact HC.out _ hB4 | exact HC.out _ hB2 | exact HC.out _ (hB2.alloc hb2s _))
            (first
              | (refine step_apAt rfl (.tmp 36) (.tmp 47) 22 rfl w1.heap.size 5 i0 (.int .u8 0) 1 1 Try.underlying22 hi0 hz0 hz1 hz2 rfl (by decide) (.slice Aa j ca) j (bys la) (by first | rfl | (simp [Act.eval]; done)) ?_ ⟨wr.heap.size, 0, none⟩ 1 1 [.int .u8 (vx : Int)] (by first | rfl | (simp [Act.eval]; done)) rfl ?_ ?_ ?_ ?_ ?_ ?_
                 · first | exact ((HAB.out.a.alloc _).drewN 1).row1 HNA.out | exact (((HAB.out.a.alloc _).alloc _).drewN 1).row1 HNA.out
                 · refine news_one ?_; first | exact cell_new wr _ _ | exact cell_1a wr _ _ _
                 · intro u hu; simp at hu; subst hu; rfl
                 · simp only [maxLen]; omega
                 · omega
                 · exact (by first | (show _ ≤ (wr.alloc _).heap.size; rw [World.size_alloc]; omega) | (show _ ≤ ((wr.alloc _).alloc _).heap.size; rw [World.size_alloc, World.size_alloc]; omega))
                 intro v2 w2 hown2 hgr2 hat2
                 obtain ⟨A2, c2, rfl, hAB2⟩ := AB.app (by first | exact (HAB.out.alloc _).drewN 1 | exact ((HAB.out.alloc _).alloc _).drewN 1) hvx hown2 hgr2 hat2
                 have hB2 : Below w1.heap.size w1 w2 := AB.below (by first | exact (HAB.out.alloc _).drewN 1 | exact ((HAB.out.alloc _).alloc _).drewN 1) (by first | exact Gw.Below.drewN (hbel.alloc hbs _) 1 | exact Gw.Below.drewN ((hbel.alloc hbs _).alloc (by rw [World.size_alloc]; omega) _) 1) (by first | (show _ ≤ (wr.alloc _).heap.size; rw [World.size_alloc]; omega) | (show _ ≤ ((wr.alloc _).alloc _).heap.size; rw [World.size_alloc, World.size_alloc]; omega)) hgr2
                 have hK2 := hgr2
                 have hb2s := hB2.size
                 have hlast : True := trivial
                 rw [HLA.out])
              | (refine step_apAt rfl (.tmp 36) (.tmp 47) 22 rfl w1.heap.size 5 i0 (.int .u8 0) 1 1 Try.underlying22 hi0 hz0 hz1 hz2 rfl (by decide) (.slice Aa j ca) j (bys la) (by first | rfl | (simp [Act.eval]; done)) ?_ ⟨wr.heap.size + 1, 0, none⟩ 1 1 [.int .u8 (vx : Int)] (by first | rfl | (simp [Act.eval]; done)) rfl ?_ ?_ ?_ ?_ ?_ ?_
                 · first | exact ((HAB.out.a.alloc _).drewN 1).row1 HNA.out | exact (((HAB.out.a.alloc _).alloc _).drewN 1).row1 HNA.out
                 · refine news_one ?_; exact cell_2a wr _ _ _
                 · intro u hu; simp at hu; subst hu; rfl
                 · simp only [maxLen]; omega
                 · omega
                 · exact (by first | (show _ ≤ (wr.alloc _).heap.size; rw [World.size_alloc]; omega) | (show _ ≤ ((wr.alloc _).alloc _).heap.size; rw [World.size_alloc, World.size_alloc]; omega))
                 intro v2 w2 hown2 hgr2 hat2
                 obtain ⟨A2, c2, rfl, hAB2⟩ := AB.app (by first | exact (HAB.out.alloc _).drewN 1 | exact ((HAB.out.alloc _).alloc _).drewN 1) hvx hown2 hgr2 hat2
                 have hB2 : Below w1.heap.size w1 w2 := AB.below (by first | exact (HAB.out.alloc _).drewN 1 | exact ((HAB.out.alloc _).alloc _).drewN 1) (by first | exact Gw.Below.drewN (hbel.alloc hbs _) 1 | exact Gw.Below.drewN ((hbel.alloc hbs _).alloc (by rw [World.size_alloc]; omega) _) 1) (by first | (show _ ≤ (wr.alloc _).heap.size; rw [World.size_alloc]; omega) | (show _ ≤ ((wr.alloc _).alloc _).heap.size; rw [World.size_alloc, World.size_alloc]; omega)) hgr2
                 have hK2 := hgr2
                 have hb2s := hB2.size
                 have hlast : True := trivial
                 rw [HLA.out])
              | (refine step_apAt rfl (.tmp 49) (.tmp 60) 22 rfl w1.heap.size 5 i0 (.int .u8 0) 1 1 Try.underlying22 hi0 hz0 hz1 hz2 rfl (by decide) (.slice Ab j cb) j (bys lb) (by first | rfl | (simp [Act.eval]; done)) ?_ ⟨wr.heap.size, 0, none⟩ 1 1 [.int .u8 (vy : Int)] (by first | rfl | (simp [Act.eval]; done)) rfl ?_ ?_ ?_ ?_ ?_ ?_
                 · first | exact ((HAB.out.swap.a.alloc _).drewN 1).row1 HNB.out | exact (((HAB.out.swap.a.alloc _).alloc _).drewN 1).row1 HNB.out
                 · refine news_one ?_; first | exact cell_new wr _ _ | exact cell_1a wr _ _ _
                 · intro u hu; simp at hu; subst hu; rfl
                 · simp only [maxLen]; omega
                 · omega
                 · exact (by first | (show _ ≤ (wr.alloc _).heap.size; rw [World.size_alloc]; omega) | (show _ ≤ ((wr.alloc _).alloc _).heap.size; rw [World.size_alloc, World.size_alloc]; omega))
                 intro v2 w2 hown2 hgr2 hat2
                 obtain ⟨A2, c2, rfl, hAB2⟩ := AB.app (by first | exact (HAB.out.swap.alloc _).drewN 1 | exact ((HAB.out.swap.alloc _).alloc _).drewN 1) hvy hown2 hgr2 hat2
                 have hB2 : Below w1.heap.size w1 w2 := AB.below (by first | exact (HAB.out.swap.alloc _).drewN 1 | exact ((HAB.out.swap.alloc _).alloc _).drewN 1) (by first | exact Gw.Below.drewN (hbel.alloc hbs _) 1 | exact Gw.Below.drewN ((hbel.alloc hbs _).alloc (by rw [World.size_alloc]; omega) _) 1) (by first | (show _ ≤ (wr.alloc _).heap.size; rw [World.size_alloc]; omega) | (show _ ≤ ((wr.alloc _).alloc _).heap.size; rw [World.size_alloc, World.size_alloc]; omega)) hgr2
                 have hK2 := hgr2
                 have hb2s := hB2.size
                 have hlast : True := trivial
                 rw [HLB.out])
              | (refine step_apAt rfl (.tmp 49) (.tmp 60) 22 rfl w1.heap.size 5 i0 (.int .u8 0) 1 1 Try.underlying22 hi0 hz0 hz1 hz2 rfl (by decide) (.slice Ab j cb) j (bys lb) (by first | rfl | (simp [Act.eval]; done)) ?_ ⟨wr.heap.size + 1, 0, none⟩ 1 1 [.int .u8 (vy : Int)] (by first | rfl | (simp [Act.eval]; done)) rfl ?_ ?_ ?_ ?_ ?_ ?_
                 · first | exact ((HAB.out.swap.a.alloc _).drewN 1).row1 HNB.out | exact (((HAB.out.swap.a.alloc _).alloc _).drewN 1).row1 HNB.out
                 · refine news_one ?_; exact cell_2a wr _ _ _
                 · intro u hu; simp at hu; subst hu; rfl
                 · simp only [maxLen]; omega
                 · omega
                 · exact (by first | (show _ ≤ (wr.alloc _).heap.size; rw [World.size_alloc]; omega) | (show _ ≤ ((wr.alloc _).alloc _).heap.size; rw [World.size_alloc, World.size_alloc]; omega))
                 intro v2 w2 hown2 hgr2 hat2
                 obtain ⟨A2, c2, rfl, hAB2⟩ := AB.app (by first | exact (HAB.out.swap.alloc _).drewN 1 | exact ((HAB.out.swap.alloc _).alloc _).drewN 1) hvy hown2 hgr2 hat2
                 have hB2 : Below w1.heap.size w1 w2 := AB.below (by first | exact (HAB.out.swap.alloc _).drewN 1 | exact ((HAB.out.swap.alloc _).alloc _).drewN 1) (by first | exact Gw.Below.drewN (hbel.alloc hbs _) 1 | exact Gw.Below.drewN ((hbel.alloc hbs _).alloc (by rw [World.size_alloc]; omega) _) 1) (by first | (show _ ≤ (wr.alloc _).heap.size; rw [World.size_alloc]; omega) | (show _ ≤ ((wr.alloc _).alloc _).heap.size; rw [World.size_alloc, World.size_alloc]; omega)) hgr2
                 have hK2 := hgr2
                 have hb2s := hB2.size
                 have hlast : True := trivial
                 rw [HLB.out])
              | (refine step_apAt rfl (.tmp 49) (.tmp 60) 22 rfl w1.heap.size 5 i0 (.int .u8 0) 1 1 Try.underlying22 hi0 hz0 hz1 hz2 rfl (by decide) (.slice Ab j cb) j (bys lb) (by first | rfl | (simp [Act.eval]; done)) ?_ ⟨w2.heap.size, 0, none⟩ 1 1 [.int .u8 (vy : Int)] (by first | rfl | (simp [Act.eval]; done)) rfl ?_ ?_ ?_ ?_ ?_ ?_
                 · exact (hAB2.swap.a.alloc _).row1 HNB.out
                 · refine news_one ?_; exact cell_new w2 _ _
                 · intro u hu; simp at hu; subst hu; rfl
                 · simp only [maxLen]; omega
                 · omega
                 · exact (by rw [World.size_alloc]; omega)
                 intro v4 w4 hown4 hgr4 hat4
                 obtain ⟨A4, c4, rfl, hAB4⟩ := AB.app (hAB2.swap.alloc _) hvy hown4 hgr4 hat4
                 have hB4 : Below w1.heap.size w1 w4 := AB.below (hAB2.swap.alloc _) (hB2.alloc hb2s _) (by rw [World.size_alloc]; omega) hgr4
                 rw [HLB.out])
              | (refine step_apAt rfl (.tmp 49) (.tmp 60) 22 rfl w1.heap.size 5 i0 (.int .u8 0) 1 1 Try.underlying22 hi0 hz0 hz1 hz2 rfl (by decide) (.slice Ab j cb) j (bys lb) (by first | rfl | (simp [Act.eval]; done)) ?_ ⟨wr.heap.size + 1, 0, none⟩ 1 1 [.int .u8 (vy : Int)] (by first | rfl | (simp [Act.eval]; done)) rfl ?_ ?_ ?_ ?_ ?_ ?_
                 · exact hAB2.swap.a.row1 HNB.out
                 · refine news_one ?_; exact grown_cell hK2 (cell_2a wr _ _ _) (fun r hr => by have := (ownB HAB.out.a hr).2; omega)
                 · intro u hu; simp at hu; subst hu; rfl
                 · simp only [maxLen]; omega
                 · omega
                 · exact hb2s
                 intro v4 w4 hown4 hgr4 hat4
                 obtain ⟨A4, c4, rfl, hAB4⟩ := AB.app hAB2.swap hvy hown4 hgr4 hat4
                 have hB4 : Below w1.heap.size w1 w4 := AB.below hAB2.swap hB2 hb2s hgr4
                 rw [HLB.out])
              | (refine step_apAt rfl (.tmp 49) (.tmp 60) 22 rfl w1.heap.size 5 i0 (.int .u8 0) 1 1 Try.underlying22 hi0 hz0 hz1 hz2 rfl (by decide) (.slice Ab j cb) j (bys lb) (by first | rfl | (simp [Act.eval]; done)) ?_ ⟨wr.heap.size, 0, none⟩ 1 1 [.int .u8 (vy : Int)] (by first | rfl | (simp [Act.eval]; done)) rfl ?_ ?_ ?_ ?_ ?_ ?_
                 · exact hAB2.swap.a.row1 HNB.out
                 · refine news_one ?_; exact grown_cell hK2 (cell_1a wr _ _ _) (fun r hr => by have := (ownB HAB.out.a hr).2; omega)
                 · intro u hu; simp at hu; subst hu; rfl
                 · simp only [maxLen]; omega
                 · omega
                 · exact hb2s
                 intro v4 w4 hown4 hgr4 hat4
                 obtain ⟨A4, c4, rfl, hAB4⟩ := AB.app hAB2.swap hvy hown4 hgr4 hat4
                 have hB4 : Below w1.heap.size w1 w4 := AB.below hAB2.swap hB2 hb2s hgr4
                 rw [HLB.out])
              | (refine step_apAt rfl (.tmp 36) (.tmp 47) 22 rfl w1.heap.size 5 i0 (.int .u8 0) 1 1 Try.underlying22 hi0 hz0 hz1 hz2 rfl (by decide) (.slice Aa j ca) j (bys la) (by first | rfl | (simp [Act.eval]; done)) ?_ ⟨w2.heap.size, 0, none⟩ 1 1 [.int .u8 (vx : Int)] (by first | rfl | (simp [Act.eval]; done)) rfl ?_ ?_ ?_ ?_ ?_ ?_
                 · exact (hAB2.swap.a.alloc _).row1 HNA.out
                 · refine news_one ?_; exact cell_new w2 _ _
                 · intro u hu; simp at hu; subst hu; rfl
                 · simp only [maxLen]; omega
                 · omega
                 · exact (by rw [World.size_alloc]; omega)
                 intro v4 w4 hown4 hgr4 hat4
                 obtain ⟨A4, c4, rfl, hAB4⟩ := AB.app (hAB2.swap.alloc _) hvx hown4 hgr4 hat4
                 have hB4 : Below w1.heap.size w1 w4 := AB.below (hAB2.swap.alloc _) (hB2.alloc hb2s _) (by rw [World.size_alloc]; omega) hgr4
                 rw [HLA.out])
              | (refine step_apAt rfl (.tmp 36) (.tmp 47) 22 rfl w1.heap.size 5 i0 (.int .u8 0) 1 1 Try.underlying22 hi0 hz0 hz1 hz2 rfl (by decide) (.slice Aa j ca) j (bys la) (by first | rfl | (simp [Act.eval]; done)) ?_ ⟨wr.heap.size + 1, 0, none⟩ 1 1 [.int .u8 (vx : Int)] (by first | rfl | (simp [Act.eval]; done)) rfl ?_ ?_ ?_ ?_ ?_ ?_
                 · exact hAB2.swap.a.row1 HNA.out
                 · refine news_one ?_; exact grown_cell hK2 (cell_2a wr _ _ _) (fun r hr => by have := (ownB HAB.out.b hr).2; omega)
                 · intro u hu; simp at hu; subst hu; rfl
                 · simp only [maxLen]; omega
                 · omega
                 · exact hb2s
                 intro v4 w4 hown4 hgr4 hat4
                 obtain ⟨A4, c4, rfl, hAB4⟩ := AB.app hAB2.swap hvx hown4 hgr4 hat4
                 have hB4 : Below w1.heap.size w1 w4 := AB.below hAB2.swap hB2 hb2s hgr4
                 rw [HLA.out])
              | (refine step_apAt rfl (.tmp 36) (.tmp 47) 22 rfl w1.heap.size 5 i0 (.int .u8 0) 1 1 Try.underlying22 hi0 hz0 hz1 hz2 rfl (by decide) (.slice Aa j ca) j (bys la) (by first | rfl | (simp [Act.eval]; done)) ?_ ⟨wr.heap.size, 0, none⟩ 1 1 [.int .u8 (vx : Int)] (by first | rfl | (simp [Act.eval]; done)) rfl ?_ ?_ ?_ ?_ ?_ ?_
                 · exact hAB2.swap.a.row1 HNA.out
                 · refine news_one ?_; exact grown_cell hK2 (cell_1a wr _ _ _) (fun r hr => by have := (ownB HAB.out.b hr).2; omega)
                 · intro u hu; simp at hu; subst hu; rfl
                 · simp only [maxLen]; omega
                 · omega
                 · exact hb2s
                 intro v4 w4 hown4 hgr4 hat4
                 obtain ⟨A4, c4, rfl, hAB4⟩ := AB.app hAB2.swap hvx hown4 hgr4 hat4
                 have hB4 : Below w1.heap.size w1 w4 := AB.below hAB2.swap hB2 hb2s hgr4
                 rw [HLA.out]))
          all_goals (
            have H4 := Lib.hid hAB4
            have HB4 := Lib.hid hB4
            clear hAB4 hB4 hAB2 hB2 hown2 hgr2 hat2 hK2 hown4 hgr4 hat4 hlast
            go_wp2
            go_roundw
            case rel => first | exact ⟨j + 1, A2, A4, c2, c4, by omega, by go_num, rfl, rfl, by rw [HPA.out, HPB.out]; exact H4.out.swap, HB4.out⟩ | exact ⟨j + 1, A4, A2, c4, c2, by omega, by go_num, rfl, rfl, by rw [HPA.out, HPB.out]; exact H4.out, HB4.out⟩
            case measure => simp [intOf]; omega)
        · obtain rfl : j = rl.length := by omega
          rw [List.take_length] at hAB
          have hl1 : (pts xs rl).length = rl.length := pts_len _ _
          have hl2 : (pts ys rl).length = rl.length := pts_len _ _
          have T := Lib.hid (rthrough_any Aa Ab ca cb (pts xs rl) (pts ys rl) wr hAB.a.inn hAB.b.inn (by omega) (by omega))
          rw [hl1, hl2] at T
          have HPL := Lib.hid (show (pthr xs ys rl).length ≤ 256 by have := (pthr_ok (ys := ys) HMEM.out).2.2; omega)
          clear hAB hl1 hl2
          go_wp2_with fail
          refine T.out.mono ?_
          rintro e w5 ⟨A5, c5, rfl, ho5, hb5⟩
          have hB5 := hbel.trans (hb5.mono hbs)
          have hB5w := hb1.trans (hB5.mono hb1s)
          have ho6 : Gw.Own w5 wr.heap.size 5 A5 c5 (pthr xs ys rl) := ho5
          have T2 := Lib.hid (agrees_any A5 A A' c5 c c' (pthr xs ys rl) xs ys w5 _ ho6.inn ((hI.below hB5w).more hB5w.size) ((hI'.below hB5w).more hB5w.size) (by have := HE.out; omega) (by have := HPL.out; omega) (by omega))
          rw [← HE.out] at T2
          obtain ⟨q, hq⟩ : ∃ q, q = pthr xs ys rl := ⟨_, rfl⟩
          have hq' : thr (pts xs rl) (pts ys rl) = q := by rw [hq]; rfl
          rw [hq']
          rw [← hq] at T2 ho6 HPL
          have HQ := Lib.hid hq
          obtain ⟨g, hg⟩ : ∃ g, g = agrTo q xs ys xs.length := ⟨_, rfl⟩
          rw [← hg] at T2
          have HGG := Lib.hid hg
          have HO6 := Lib.hid ho6
          have HB5 := Lib.hid hB5
          have HB5w := Lib.hid hB5w
          clear T ho5 hq hq' hg ho6 hb5 hB5 hB5w hc1
          go_wp2_with fail
          refine T2.out.mono ?_
          rintro e w6 ⟨rfl, mm, rfl⟩
          by_cases hge : m ≤ g
          · have hge2 : (m : Int) ≤ (g : Int) := by omega
            have hge3 : ¬ ((g : Int) < (m : Int)) := by omega
            go_wp2
            go_ret2
            exact ⟨.inl ⟨rl, A5, c5, HMEM.out, by rw [← HQ.out]; rfl, by rw [← HQ.out, ← HGG.out]; exact hge, by rw [← HQ.out]; exact (HO6.out.drewN mm).base (by omega)⟩, Gw.Below.drewN HB5w.out mm⟩
          · have hge2 : ¬ ((m : Int) ≤ (g : Int)) := by omega
            have hge3 : (g : Int) < (m : Int) := by omega
            have HNN := Lib.hid (show ∀ r ∈ (R.take (k + 1)).map Jr.l, agrTo (pthr xs ys r) xs ys xs.length < m from fun r hr => by
              rw [HTK.out] at hr
              rcases List.mem_append.1 hr with h | h
              · exact HNO.out r h
              · have hrr : r = rl := by simpa using h
                rw [hrr, ← HQ.out, ← HGG.out]; omega)
            go_wp2
            go_roundw
            case rel => exact ⟨k + 1, by omega, by go_num, HNN.out, Gw.Below.drewN HB5.out mm⟩
            case measure => simp [intOf]; omega
    · obtain rfl : k = R.length := by omega
      have HNN := Lib.hid (show ∀ r ∈ pk (D + 1) xs.length, agrTo (pthr xs ys r) xs ys xs.length < m from fun r hr => hno r (by rw [List.take_length, HR.out]; exact hr))
      clear hno
      go_wp2
      go_ret2
      exact ⟨.inr ⟨rfl, HNN.out⟩, hb1.trans (hbel0.mono hb1s)⟩
end Go.Proofs.Ytmcfkgjkfceomaa
