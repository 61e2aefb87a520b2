/- What bytes.Clone and poly's Div do: a copy of its own; quotient and what is left, each in memory of its own, or that there is none. -/
import Derived.Test.YtmcfkgjkfceomaaClo
import Derived.Test.YtmcfkgjkfceomaaPpc
namespace Go.Proofs.Ytmcfkgjkfceomaa
open Go.RowKit Go.Shelf Gw Pol

set_option maxRecDepth 100000 in
set_option maxHeartbeats 1000000 in
/-- There is none. -/
theorem pdiv_none (bf : Nat) (A A' : Option Addr) (c c' : Nat) (p d : List Nat) (w : World) (hd : In w w.heap.size A' c' d) (hz : tr d = []) (hcm : d.length ≤ 140737488355328) :
    Calls Try.prog 30 #[.pointer (some ⟨bf, 0, none⟩), .slice A p.length c, .slice A' d.length c'] w fun e w' => e = .returned (.tuple #[.slice none 0 0, .slice none 0 0, .bool false]) ∧ w = w' := by
  have T := ptrim_any A' c' d w w.heap.size hd hcm
  rw [hz] at T
  have T2 := Lib.hid T
  clear T hz
  go_enter Try.func30, Try.ntmps30
  go_wp2_with fail
  refine T2.out.mono ?_
  rintro e w' ⟨rfl, rfl⟩
  go_wp2
  go_ret3
  exact ⟨rfl, rfl⟩

/-- What Div answers where there is one. -/
def DivAns (w : World) (p d : List Nat) (e : Ending) (w' : World) : Prop :=
  ∃ (q r : List Nat) (Aq Ar : Option Addr) (cq cr : Nat), e = .returned (.tuple #[.slice Aq q.length cq, .slice Ar r.length cr, .bool true]) ∧ DivOf p d q r ∧
    Gw.Own w' w.heap.size 5 Aq cq q ∧ Gw.Own w' w.heap.size 5 Ar cr r ∧ (∀ g o o' : Nat, Aq = some ⟨g, o, none⟩ → Ar ≠ some ⟨g, o', none⟩) ∧ Below w.heap.size w w'

theorem co_set_same {l : List Nat} {i c : Nat} (h : i < l.length) : co (l.set i c) i = c := by
  rw [co_get (by rw [List.length_set]; exact h)]; simp
/-- What the world is like when a byte of the quotient is laid. -/
def PdMid (w : World) (bf : Nat) (D : List Nat) (A : Option Addr) (gq gr Q cr : Nat) (q r : List Nat) (j x : Nat) (W : World) : Prop :=
  Gw.Own W w.heap.size 5 (some ⟨gq, 0, none⟩) Q (q.set j x) ∧ Gw.Own W w.heap.size 5 (some ⟨gr, 0, none⟩) cr r ∧ IsField W bf ∧ SlN W gr A D ∧ Below w.heap.size w W
theorem PdMid.mk' {w wr : World} {bf : Nat} {D : List Nat} {A : Option Addr} {c' gq gr Q cr : Nat} {q r : List Nat} {j x : Nat} (hx : x < 256) (hj : j < q.length) (hgq : w.heap.size ≤ gq) (hgr : w.heap.size ≤ gr) (hne : gq ≠ gr) (hlf : bf < w.heap.size)
    (hoq : Gw.Own wr w.heap.size 5 (some ⟨gq, 0, none⟩) Q q) (hor : Gw.Own wr w.heap.size 5 (some ⟨gr, 0, none⟩) cr r) (hF : IsField w bf) (hD : In w w.heap.size A c' D) (hb : Below w.heap.size w wr) (m : Nat) :
    PdMid w bf D A gq gr Q cr q r j x ((wr.drewN m).setCell ⟨gq, j, none⟩ (.int .u8 (x : Int))) := by
  have hbb : Below w.heap.size w ((wr.drewN m).setCell ⟨gq, j, none⟩ (.int .u8 (x : Int))) := (Gw.Below.drewN hb m).setCell (p := ⟨gq, j, none⟩) hgq _
  have hg : (wr.drewN m).grownBy ((wr.drewN m).setCell ⟨gq, j, none⟩ (.int .u8 (x : Int))) (some gq) := grown_put (World.grownBy.refl _ _) _
  refine ⟨(hoq.drewN m).put hj hx, (hor.drewN m).grown hg (fun o e => ?_), hF.below hbb hlf, (hD.sl.below hbb).away hgr, hbb⟩
  injection e with e
  injection e with e1
  exact hne e1.symm

def PdRel (w : World) (P D : List Nat) (gq gr Q n cr : Nat) (i : Value) (wr : World) : Prop :=
  ∃ (k : Nat) (q r : List Nat), k ≤ Q ∧ i = .int .i64 ((k : Int) - 1) ∧ q.length = Q ∧ r.length = n ∧ DivAt P D q r k ∧ Gw.Own wr w.heap.size 5 (some ⟨gq, 0, none⟩) Q q ∧ Gw.Own wr w.heap.size 5 (some ⟨gr, 0, none⟩) cr r ∧ Below w.heap.size w wr

set_option maxRecDepth 100000 in
set_option maxHeartbeats 2000000 in
theorem pdiv_long (bf : Nat) (A A' : Option Addr) (c c' : Nat) (p d : List Nat) (w : World) (hF : IsField w bf) (hp : In w w.heap.size A c p) (hd : In w w.heap.size A' c' d) (hz : tr d ≠ []) (hlong : (tr d).length ≤ (tr p).length) (hcm : p.length ≤ 140737488355328) (hcm2 : d.length ≤ 140737488355328) :
    Calls Try.prog 30 #[.pointer (some ⟨bf, 0, none⟩), .slice A p.length c, .slice A' d.length c'] w fun e w' => DivAns w p d e w' := by
  have T1 := Lib.hid (ptrim_any A' c' d w w.heap.size hd hcm2)
  have T2 := Lib.hid (ptrim_any A c p w w.heap.size hp hcm)
  have T3 := Lib.hid (clone_any A c (tr p) w hp.tr (Nat.le_trans (tr_len p) hcm))
  have hlf := hF.lt
  have hD := hd.tr
  have hDb := hD.bb
  have hPb := hp.tr.bb
  have l1 := tr_len p
  have l2 := tr_len d
  have htop := tr_last hz
  rw [← co_tr] at htop
  have HDone := Lib.hid (fun (q r : List Nat) (h : DivAt (tr p) (tr d) q r 0) (hl : q.length = (tr p).length - ((tr d).length - 1)) => h.done hz hl)
  obtain ⟨P, hPe⟩ : ∃ P, P = tr p := ⟨_, rfl⟩
  obtain ⟨D, hDe⟩ : ∃ D, D = tr d := ⟨_, rfl⟩
  rw [← hPe] at T2 T3 l1 hPb HDone hlong
  rw [← hDe] at T1 hD l2 hDb htop HDone hz hlong
  clear hp hd hPe hDe
  obtain ⟨n, hn⟩ : ∃ n, n = P.length := ⟨_, rfl⟩
  obtain ⟨m, hm⟩ : ∃ m, m = D.length := ⟨_, rfl⟩
  have hm1 : 0 < D.length := List.length_pos_iff.2 hz
  rw [← hn] at T2 T3 l1 hlong
  rw [← hm] at T1 l2 htop hm1 hlong
  have HN := Lib.hid hn
  have HM := Lib.hid hm
  clear hn hm hz
  have hm0 : ((m : Int) == 0) = false := beq_eq_false_iff_ne.2 (by omega)
  obtain ⟨t, ht⟩ : ∃ t, t = m - 1 := ⟨_, rfl⟩
  have ht1 : (m : Int) - 1 = (t : Int) := by omega
  have htm : t < m := by omega
  obtain ⟨Q, hQ⟩ : ∃ Q, Q = n - t := ⟨_, rfl⟩
  have hQ1 : (n : Int) - (t : Int) = (Q : Int) := by omega
  have hQt : Q + t = n := by omega
  have hQ0 : 0 < Q := by omega
  have hQ2 : ¬ ((Q : Int) < 0) := by omega
  have HT := Lib.hid ht
  rw [← ht] at htop
  clear ht hQ
  have hmk := run_make_row' (P := Try.prog) 22 5 (.int .u8 0) 1 Try.underlying22 pbyte_info rfl .i64 .i64 Q (by omega) (by omega)
  go_enter Try.func30, Try.ntmps30
  go_wp2_with fail
  refine T1.out.mono ?_
  rintro e w' ⟨rfl, rfl⟩
  go_wp2_with fail
  refine T2.out.mono ?_
  rintro e w' ⟨rfl, rfl⟩
  go_wp2_with fail
  refine T3.out.mono ?_
  rintro e w1 ⟨Ar, cr, rfl, hownr, hb1⟩
  obtain ⟨gr, rfl, hgr, _⟩ := Own.store hownr (k := 0) (by rw [← HN.out]; omega)
  have hgr2 := hownr.lt.2
  have hrcap := hownr.cap
  rw [← HN.out] at hrcap
  have hb1s := hb1.size
  go_wp2
  clear hmk
  have hown1 := hownr.alloc (.cells (madeCells #[.int .u8 0] Q) 5)
  have hownq := (Own.made w1 5 Q (by omega)).base hb1s
  have hb2 := hb1.alloc hb1s (.cells (madeCells #[.int .u8 0] Q) 5)
  have HST := Lib.hid (DivAt.start (d := D) hPb Q (by rw [← HN.out, ← HM.out]; omega))
  go_loopw [10] (PdRel w P D w1.heap.size gr Q n cr) (fun i _ => (intOf i + 1).toNat)
  case atStart => exact ⟨Q, _, P, Nat.le_refl _, by go_num, by simp, HN.out.symm, HST.out, hownq, hown1, hb2⟩
  case round =>
    clear hown1 hownq hb2 HST hownr hb1
    obtain ⟨k, q, r, hk, rfl, hql, hrl, hat, hoq, hor, hbel⟩ := hrel
    by_cases hk0 : k = 0
    · subst hk0
      have HD2 := Lib.hid (HDone.out q r hat (by rw [hql, ← HN.out, ← HM.out, ← HT.out]; omega))
      have HO1 := Lib.hid hoq
      have HO2 := Lib.hid hor
      have HRL := Lib.hid hrl
      have HQL := Lib.hid hql
      have HI := Lib.hid hor.inn
      clear hoq hor hat hrl hql hQ1 ht1
      go_wp2_with fail
      refine (ptrim' (some ⟨gr, 0, none⟩) cr n r _ _ HRL.out.symm HI.out (by rw [HRL.out]; omega)).mono ?_
      rintro e w' ⟨rfl, rfl⟩
      go_wp2
      go_ret3
      exact ⟨q, tr r, some ⟨w1.heap.size, 0, none⟩, some ⟨gr, 0, none⟩, Q, cr, by rw [HQL.out]; rfl, HD2.out, HO1.out, HO2.out.tr, fun g o o' e e' => by injection e with e; injection e' with e'; injection e with e1; injection e' with e2; omega, hbel⟩
    · obtain ⟨j, rfl⟩ : ∃ j, k = j + 1 := ⟨k - 1, by omega⟩
      have hj : ((j + 1 : Nat) : Int) - 1 = (j : Int) := by omega
      rw [hj]
      have hjQ : j < Q := by omega
      obtain ⟨s, hs⟩ : ∃ s, s = j + t := ⟨_, rfl⟩
      have hsw : IntKind.i64.wrap ((j : Int) + (t : Int)) = (s : Int) := by rw [IntKind.wrap_i64]; omega
      have hsn : s < n := by omega
      have hsn2 : (s : Int) < (n : Int) := by omega
      obtain ⟨y, b, off, hy, hyb, rfl, hb, hcy⟩ := (hD.below hbel).sl.at_ (k := t) (by rw [← HM.out]; exact htm)
      have hcr := hor.cell (k := s) (by rw [hrl]; exact hsn)
      have hvr := hor.2.co s
      obtain ⟨v, hv⟩ : ∃ v, v = co r s := ⟨_, rfl⟩
      rw [← hv] at hcr hvr
      have hfq := Own.frozen hoq j
      have hcq := hoq.cell (k := j) (by rw [hql]; exact hjQ)
      have hF' := hF.below hbel hlf
      have HY := Lib.hid (co_of' hy)
      have HV := Lib.hid hv
      have HSJ := Lib.hid hs
      have HQL := Lib.hid hql
      have HRL := Lib.hid hrl
      have HA := Lib.hid hat
      have HOQ := Lib.hid hoq
      have HOR := Lib.hid hor
      have HSTEP := Lib.hid (hat.step (c := Gf.dv v y) hDb (by rw [← HM.out]; exact hm1) (by rw [← HM.out, ← HT.out]; exact htop) (by rw [hql]; exact hjQ) (by rw [hrl, ← HM.out]; omega) (by
        rw [hv, ← co_of' hy, ← HM.out, ← HT.out, hs]; congr 2; have := HT.out; omega))
      have HM2 := Lib.hid (PdMid.mk' (x := Gf.dv v y) (Gf.gm_lt _ _) (by rw [hql]; exact hjQ) hb1s hgr (by omega) hlf hoq hor hF hD hbel)
      clear hy hv hs hql hrl hat hoq hor hj
      go_wp2
      go_region_with (go_at_call 41; refine (div_any bf v y hvr hyb _ (hF'.drewN _)).mono ?_; rintro e w' ⟨rfl, n1, rfl⟩)
      all_goals (
        obtain ⟨W2, hW2⟩ : ∃ W2, W2 = (wr.drewN (1 + n1)).setCell ⟨w1.heap.size, j, none⟩ (.int .u8 (Gf.dv v y : Int)) := ⟨_, rfl⟩
        have h2 := HM2.out (1 + n1)
        rw [← hW2] at h2 ⊢
        clear hW2 hcy hcr hfq hcq hF'
        obtain ⟨hoq2, hor2, hF2, hD2, hb2⟩ := h2
        have hcq2 := hoq2.cell (k := j) (by rw [List.length_set, HQL.out]; exact hjQ)
        rw [co_set_same (by rw [HQL.out]; exact hjQ)] at hcq2
        have hjn : j < n := by omega
        have hjc : j < cr := by omega
        have HO2 := Lib.hid hoq2
        clear hoq2
        go_wp2
        go_region_with (go_at_call 43; refine (addTimes' bf gr j _ _ w.heap.size cr r (some ⟨b, off, none⟩) c' m D (Gf.dv v y) HM.out (Gf.gm_lt _ _) _ (hF2.drewN _) (by omega) (hor2.drewN _) (by rw [← HM.out, HRL.out]; omega) (by rw [← HM.out]; omega) (hD2.drewN _) (by rw [HRL.out]; omega)).mono ?_; rintro e w3 ⟨rfl, hown3, hg3⟩))
      all_goals (
        have hoq3 := (HO2.out.drewN 1).grown hg3 (fun o e => by injection e with e; injection e with e1; omega)
        have hb3 := (Gw.Below.drewN hb2 1).trans (Gw.Below.by hg3 hb2.size hgr)
        have H3 := Lib.hid hoq3
        have H4 := Lib.hid hown3
        have H5 := Lib.hid hb3
        clear hoq3 hown3 hb3 hg3 hb2 hor2 hF2 hD2 hcq2
        go_wp2
        go_roundw
        case rel => exact ⟨j, q.set j (Gf.dv v y), addAt r j (Gf.dv v y) D, by omega, by go_num, by rw [List.length_set]; exact HQL.out, by rw [addAt_len]; exact HRL.out, HSTEP.out, H3.out, H4.out, H5.out⟩
        case measure => simp [intOf])
end Go.Proofs.Ytmcfkgjkfceomaa
