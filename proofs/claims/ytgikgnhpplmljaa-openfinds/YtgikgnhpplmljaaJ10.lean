import Derived.Maps.AppendAt
import Derived.Deep.RegionHeldLaw
import Derived.Test.YtgikgnhpplmljaaJ2
import Derived.Test.YtgikgnhpplmljaaJ3
import Derived.Test.YtgikgnhpplmljaaJ6
import Derived.Test.YtgikgnhpplmljaaJ9
section
/- What bw's Decode does: the polynomial that is agreed on, and the places of the values that are not its own; or that there is none. -/
namespace Gw
open Go Go.RowKit Go.Shelf Gq
theorem Own.x2 {X : Nat → TypeId → Prop} {w : World} {A : Option Addr} {c base : Nat} {e : TypeId} {l : List Nat} (h : Own w base e A c l) (hX : ∀ b e, base ≤ b → b < w.heap.size → ¬ X b e) : InX X w A c l := ⟨fun i x hx => by
  obtain ⟨h1, b, off, h2, _, h4⟩ := h.sl i x hx
  obtain ⟨g, hg, hb, _⟩ := h.store (k := i) ((List.getElem?_eq_some_iff.1 hx).1)
  rw [h2] at hg
  injection hg with hg
  injection hg with hg
  exact ⟨h1, b, off, h2, fun e => hX b e (by omega) (cell_lt h4), h4⟩, h.cap, h.inn.none_⟩
end Gw
namespace Go.Proofs.Ytgikgnhpplmljaa
open Go.RowKit Go.Shelf Gw Pol Gq Go.BigFrame
attribute [local go_sem] Oper.semAt_some

/-- Four boxes behind others. -/
structure DcF (w : World) (v0 v1 v2 v3 : Value) (W : World) : Prop where
  c0 : W.cell? ⟨w.heap.size, 0, none⟩ = some v0
  c1 : W.cell? ⟨w.heap.size + 1, 0, none⟩ = some v1
  c2 : W.cell? ⟨w.heap.size + 2, 0, none⟩ = some v2
  c3 : W.cell? ⟨w.heap.size + 3, 0, none⟩ = some v3
  sz : W.heap.size = w.heap.size + 4
  bl : Below w.heap.size w W
theorem dcF (w : World) (v0 v1 v2 v3 : Value) (t0 t1 t2 t3 : TypeId) : DcF w v0 v1 v2 v3 ((((w.alloc (.cells #[v0] t0)).alloc (.cells #[v1] t1)).alloc (.cells #[v2] t2)).alloc (.cells #[v3] t3)) := by
  refine ⟨?_, ?_, ?_, ?_, by simp, ?_⟩
  · exact old_cell (old_cell (old_cell (new_cell w v0 t0 _ rfl) _) _) _
  · exact old_cell (old_cell (new_cell _ v1 t1 _ (by simp)) _) _
  · exact old_cell (new_cell _ v2 t2 _ (by simp)) _
  · exact new_cell _ v3 t3 _ (by simp)
  · exact ((((Below.refl _ w).alloc (Nat.le_refl _) _).alloc (by simp) _).alloc (by simp; omega) _).alloc (by simp; omega) _

/-- The box of the places, and rows of ints from s1 on. -/
def DcX (s s1 : Nat) (b : Nat) (e : TypeId) : Prop := b = s ∨ (s1 ≤ b ∧ e = 3)
/-- Between two rounds. -/
def DcI (w : World) (s1 : Nat) (Ap : Option Addr) (cp : Nat) (p : List Nat) (L : Nat) (pre : List (Plc L)) (W : World) : Prop :=
  ((∃ A c, W.cell? ⟨w.heap.size, 0, none⟩ = some (.slice A (oval pre).length c) ∧ OwnJ W s1 3 A c (oval pre) ∧ s1 ≤ W.heap.size) ∧ W.frozen? ⟨w.heap.size, 0, none⟩ = false ∧ Gw.Own W (w.heap.size + 1) 5 Ap cp p) ∧ Below w.heap.size w W
theorem DcI.own (w : World) (s1 : Nat) (Ap : Option Addr) (cp : Nat) (p : List Nat) (L B : Nat) (hB : w.heap.size ≤ B) : OwnFrom B (DcI w s1 Ap cp p L) :=
  OwnFrom.and (Own.from (fun _ _ _ _ hs hg hr => by
    obtain ⟨⟨A, c, h0, h1, h4⟩, h2, h3⟩ := hs
    exact ⟨⟨A, c, cell_kept h0 hg hr, h1.turned hg hr, Nat.le_trans h4 hg.size⟩, (frozen_kept h0 hg hr).trans h2, own_turned h3 hg hr⟩) _) (ownFrom_below (Nat.le_refl _) hB)
/-- A round: a place is appended. -/
theorem DcI.step {w W W3 : World} {s1 : Nat} {Ap A : Option Addr} {cp c : Nat} {p : List Nat} {L i : Nat} (hi : i < L) {pre : List (Plc L)} {v' : Value} (hs : w.heap.size < s1) (hs2 : s1 ≤ W.heap.size) (hc : W.cell? ⟨w.heap.size, 0, none⟩ = some (.slice A (oval pre).length c)) (ho : OwnJ W s1 3 A c (oval pre)) (hf : W.frozen? ⟨w.heap.size, 0, none⟩ = false)
    (hp : Gw.Own W (w.heap.size + 1) 5 Ap cp p) (hB : Below w.heap.size w W) (o : Obj) (hown : W3.ownsRow s1 3 1 v' ((oval pre).length + 1) (intv (oval pre) ++ [.int .i64 (i : Int)])) (hg : (W.alloc o).grownBy W3 (Value.slice A (oval pre).length c).ownBlock) :
    KeepsOthers W (W3.setCell ⟨w.heap.size, 0, none⟩ v') ∧ KeepX (DcX w.heap.size s1) W (W3.setCell ⟨w.heap.size, 0, none⟩ v') ∧ DcI w s1 Ap cp p L (pre ++ [⟨i, hi⟩]) (W3.setCell ⟨w.heap.size, 0, none⟩ v') := by
  have hb1 : Below W.heap.size W (W.alloc o) := (Below.refl _ _).alloc (Nat.le_refl _) _
  have ho1 := ho.alloc o
  have hrow : ∀ r, (Value.slice A (oval pre).length c).ownBlock = some r → s1 ≤ r ∧ ∃ cs, (W.alloc o).heap[r]? = some (.cells cs 3 (0, 0)) := fun r hr => ho1.block hr
  have kx1 : KeepX (DcX w.heap.size s1) (W.alloc o) W3 := KeepX.by hg (fun r hr cs e z h2 => by
    obtain ⟨h3, cs', h4⟩ := hrow r hr
    rw [h2] at h4
    injection h4 with h4
    injection h4 with _ h5
    exact .inr ⟨h3, h5⟩)
  have ko1 : KeepsOthers (W.alloc o) W3 := ⟨hg.size, fun k ob hk hc => (hg.block k (Array.getElem?_eq_some_iff.1 hk).1 (fun e => by
    obtain ⟨_, cs', h4⟩ := hrow k e.symm
    rw [hk] at h4
    injection h4 with h4
    subst h4
    cases hc)).trans hk⟩
  have hne : (Value.slice A (oval pre).length c).ownBlock ≠ some w.heap.size := fun e => by have := (hrow _ e).1; omega
  have hw : w.heap.size < (W.alloc o).heap.size := by rw [World.size_alloc]; omega
  have hblk : W3.heap[w.heap.size]? = W.heap[w.heap.size]? := (hg.block _ hw (fun e => hne e.symm)).trans (hb1.block _ (by omega))
  have hc3 : W3.cell? ⟨w.heap.size, 0, none⟩ = some (.slice A (oval pre).length c) := (World.cell?_of_block (w := W) (a := ⟨w.heap.size, 0, none⟩) hblk).trans hc
  have hf3 : W3.frozen? ⟨w.heap.size, 0, none⟩ = false := (World.frozen?_of_block (w := W) (a := ⟨w.heap.size, 0, none⟩) hblk).trans hf
  have kx : KeepX (DcX w.heap.size s1) W (W3.setCell ⟨w.heap.size, 0, none⟩ v') := ((KeepX.below hb1).trans kx1).trans (KeepX.set (fun e => .inl rfl) _)
  have hbel : Below w.heap.size w W3 := (hB.trans (hb1.mono hB.size)).grown hg (by omega) (fun k hk => by have := (hrow k hk).1; omega)
  obtain ⟨A', c', hv, hO⟩ := OwnJ.mk' (L := oval pre ++ [i]) (by rw [intv_app]; exact hown)
  refine ⟨((keeps_below hb1).trans ko1).trans (KeepsOthers.setCell _ _ _), kx, ⟨⟨A', c', ?_, ?_, Nat.le_trans hs2 kx.size⟩, ?_, ?_⟩, hbel.setCell (p := ⟨w.heap.size, 0, none⟩) (Nat.le_refl _) _⟩
  · rw [oval_snoc, ← hv]
    exact World.cell?_setCell_same W3 ⟨w.heap.size, 0, none⟩ _ hc3
  · rw [oval_snoc]
    refine hO.grown (row := some w.heap.size) (Lib.grownBy_setB (World.grownBy.refl _ _) 0 v') (fun b cs hb _ e => ?_)
    injection e with e
    omega
  · rw [World.frozen?_setCell]; exact hf3
  · exact kx.own hp (fun b hb h => by
      rcases h with h | ⟨_, h⟩
      · omega
      · exact absurd h (by decide))

theorem dc_mid {w W W3 : World} {s1 : Nat} {A : Option Addr} {c : Nat} {L : List Nat} (hs : w.heap.size < s1) (hs2 : s1 ≤ W.heap.size) (hc : W.cell? ⟨w.heap.size, 0, none⟩ = some (.slice A L.length c)) (ho : OwnJ W s1 3 A c L) (hf : W.frozen? ⟨w.heap.size, 0, none⟩ = false)
    (o : Obj) (hg : (W.alloc o).grownBy W3 (Value.slice A L.length c).ownBlock) : W3.cell? ⟨w.heap.size, 0, none⟩ = some (.slice A L.length c) ∧ W3.frozen? ⟨w.heap.size, 0, none⟩ = false := by
  have hb1 : Below W.heap.size W (W.alloc o) := (Below.refl _ _).alloc (Nat.le_refl _) _
  have hne : (Value.slice A L.length c).ownBlock ≠ some w.heap.size := fun e => by have := (ho.block e).1; omega
  have hblk : W3.heap[w.heap.size]? = W.heap[w.heap.size]? := (hg.block _ (by rw [World.size_alloc]; omega) (fun e => hne e.symm)).trans (hb1.block _ (by omega))
  exact ⟨(World.cell?_of_block (w := W) (a := ⟨w.heap.size, 0, none⟩) hblk).trans hc, (World.frozen?_of_block (w := W) (a := ⟨w.heap.size, 0, none⟩) hblk).trans hf⟩

/-- When the range is through, and the box has been stored to. -/
theorem dc_end {w W W4 : World} {s1 Dd : Nat} {Ap A : Option Addr} {cp c : Nat} {p L : List Nat} {v : Value} (hs : w.heap.size < s1) (hDd : s1 ≤ Dd) (hg : W.grownBy W4 (some w.heap.size)) (hc : W4.cell? ⟨w.heap.size, 0, none⟩ = some v) (hK : W.heap[Dd]? = some (.deferred (some []))) (ho : OwnJ W s1 3 A c L)
    (hp : Gw.Own W (w.heap.size + 1) 5 Ap cp p) (hB : Below w.heap.size w W) : W4.heap[Dd]? = some (.deferred (some [])) ∧ (load ⟨w.heap.size, 0, none⟩).run Try.prog (W4.putObj Dd (.deferred none)) = .ok v (W4.putObj Dd (.deferred none)) ∧
      Gw.Own (W4.putObj Dd (.deferred none)) w.heap.size 5 Ap cp p ∧ OwnJ (W4.putObj Dd (.deferred none)) w.heap.size 3 A c L ∧ Below w.heap.size w (W4.putObj Dd (.deferred none)) := by
  have hK4 : W4.heap[Dd]? = some (.deferred (some [])) := (hg.block Dd (Array.getElem?_eq_some_iff.1 hK).1 (fun e => by injection e with e; omega)).trans hK
  have hgp : W4.grownBy (W4.putObj Dd (.deferred none)) (some Dd) := grownBy_putObj' W4 Dd (.deferred none)
  have hno : ∀ r, some Dd = some r → ∃ o : Obj, W4.heap[r]? = some o ∧ o.isCells = false := fun r e => by injection e with e; subst e; exact ⟨_, hK4, rfl⟩
  have z : (W4.putObj Dd (.deferred none)).cell? ⟨w.heap.size, 0, none⟩ = some v := (World.cell?_of_block (w := W4) (a := ⟨w.heap.size, 0, none⟩) (World.putObj_heap_other (by show w.heap.size ≠ Dd; omega))).trans hc
  refine ⟨hK4, by simp [z], ?_, ?_, ?_⟩
  · refine own_turned ((hp.grown hg (fun o e => ?_)).base (by omega)) hgp hno
    subst e
    have := hp.lt
    omega
  · exact ((ho.grown hg (fun b cs hb _ e => by injection e with e; omega)).turned hgp hno).rebase (by omega)
  · refine (hB.grown hg hB.size (fun k e => by injection e with e; omega)).grown hgp (Nat.le_trans hB.size hg.size) (fun k e => by injection e with e; omega)

/-- What is known at the end. -/
theorem dc_no {xs ys q r r0 v0 r1 v1 : List Nat} {D E : Nat} (hx : BB xs) (hEu : Eu xs ys r0 v0 r1 v1) (hhigh : xs.length + D + 3 ≤ 2 * r0.length) (hlow : 2 * r1.length < xs.length + D + 3) (hd : DivOf r1 v1 q r)
    (h : ¬ (r = [] ∧ q.length ≤ D + 1) ∨ (wrTo q xs ys xs.length).length > E ∨ xs.length < (wrTo q xs ys xs.length).length + (D + 1 + E)) (p : List Nat) : ¬ Agd xs ys (D : Int) (E : Int) p := fun hp => by
  obtain ⟨e1, e2⟩ := hEu.finds hx hp (by omega) (by omega) hd
  subst e1
  have := hp.deg; have := hp.most; have := hp.own
  rcases h with h | h | h
  · exact h ⟨e2, by omega⟩
  · omega
  · omega

set_option maxRecDepth 100000 in
set_option maxHeartbeats 4000000 in
theorem bdec_in (bf : Nat) (A A' : Option Addr) (c c' : Nat) (xs ys : List Nat) (D E t : Nat) (w : World) (hF : IsField w bf) (hI : In w w.heap.size A c xs) (hI' : In w w.heap.size A' c' ys) (he : xs.length = ys.length) (hl : xs.length ≤ 255) (hu : unB xs = true) (hD : D ≤ 255) (hE : E ≤ 255) (ht : xs.length = D + 1 + E + t) :
    CallsIn Fence.wide 6 Try.prog 26 #[.pointer (some ⟨bf, 0, none⟩), .slice A xs.length c, .slice A' ys.length c', .int .i64 (D : Int), .int .i64 (E : Int)] w (DcAns w xs ys (D : Int) (E : Int)) := by
  have hlf := hF.lt
  have hz := zeroInts
  obtain ⟨i0, hi0, hz0, hz1, hz2⟩ := info_parts pint_info
  have hB := dcB w
  have T1 := Lib.hid (repeated_any A c xs _ ((hI.below hB.bl).more hB.bl.size) (by omega))
  rw [hu] at T1
  have T2 := Lib.hid (within_any (D : Int))
  have T3 := Lib.hid (within_any (E : Int))
  have hwd : witB (D : Int) = true := decide_eq_true (by omega)
  have hwe : witB (E : Int) = true := decide_eq_true (by omega)
  rw [hwd] at T2
  rw [hwe] at T3
  have HB := Lib.hid hB
  have HE := Lib.hid he
  have HU := Lib.hid hu
  have HX := Lib.hid hI.bb
  rw [← he]
  clear hB he hu hwd hwe
  have after : ∀ w1, Below (w.alloc (.cells #[.slice none 0 0] 24)).heap.size (w.alloc (.cells #[.slice none 0 0] 24)) w1 → w1.cell? ⟨w.heap.size, 0, none⟩ = some (.slice none 0 0) ∧ w1.frozen? ⟨w.heap.size, 0, none⟩ = false ∧ Below w.heap.size w w1 ∧ w.heap.size + 1 ≤ w1.heap.size := fun w1 hb => by
    have hs := HB.out.sz
    refine ⟨(hb.cell (p := ⟨w.heap.size, 0, none⟩) (by show w.heap.size < _; omega)).trans HB.out.c, (World.frozen?_of_block (hb.block w.heap.size (by omega))).trans HB.out.f, HB.out.bl.trans (hb.mono (by omega)), by have := hb.size; omega⟩
  have HA := Lib.hid after
  clear after
  have hsub : (xs.length : Int) - ((D : Int) + 1 + (E : Int)) = (t : Int) := by omega
  have hdn : D < xs.length := by omega
  have hdl : ¬ ((255 : Int) < (xs.length : Int)) := by omega
  have HT := Lib.hid ht
  clear ht
  by_cases hlt : t < E
  · have hlt2 : (t : Int) < (E : Int) := by omega
    refine callsIn_of_wp_marks Try.func26 rfl trivial ?_ rfl
    simp only [Try.ntmps26, List.size_toArray, List.length_cons, List.length_nil, Nat.reduceAdd, Nat.reduceSub, Array.replicate_succ, Array.replicate_zero, List.push_toArray, List.append_toArray, List.nil_append, List.cons_append]
    gi_wp2_with fail
    refine ⟨trivial, ?_⟩
    refine (callsIn_wide.2 T1.out).mono ?_
    rintro en w1 ⟨rfl, hb1⟩
    obtain ⟨hc, hf, hb, hs1⟩ := HA.out w1 hb1
    clear hb1
    gi_wp2_with fail
    refine ⟨trivial, ?_⟩
    refine (callsIn_wide.2 (T2.out w1)).mono ?_
    rintro en w2 ⟨rfl, rfl⟩
    gi_wp2_with fail
    refine ⟨trivial, ?_⟩
    refine (callsIn_wide.2 (T3.out w1)).mono ?_
    rintro en w2 ⟨rfl, rfl⟩
    have T4 := Lib.hid (nearest_any bf A A' c c' D xs ys w1 (hF.below hb hlf) ((hI.below hb).more hb.size) ((hI'.below hb).more hb.size) HE.out hl HU.out hD hdn)
    rw [← HE.out] at T4
    gi_wp2_with fail
    refine ⟨trivial, ?_⟩
    refine (callsIn_wide.2 T4.out).mono ?_
    rintro en w2 ⟨r0, v0, r1, v1, q, r, hEu, hhigh, hlow, hdiv, hans, hb2⟩
    have hbw2 : Below w.heap.size w w2 := hb.trans (hb2.mono hb.size)
    have hc2 := (hb2.cell (p := ⟨w.heap.size, 0, none⟩) (by show w.heap.size < _; omega)).trans hc
    have hf2 : w2.frozen? ⟨w.heap.size, 0, none⟩ = false := (World.frozen?_of_block (hb2.block w.heap.size (by omega))).trans hf
    have HNO := Lib.hid (dc_no (E := E) HX.out hEu hhigh hlow hdiv)
    have hqb := hdiv.bq
    have hqt := hdiv.tq
    clear T4 hEu hhigh hlow hdiv
    rcases hans with ⟨Ap, cp, rfl, hr0, hqd, hoq⟩ | ⟨rfl, hno⟩
    · have hoq2 := hoq.base (base' := w.heap.size + 1) hs1
      have hs2 := hb2.size
      clear hr0
      gi_wp2_with fail
      refine ⟨trivial, ?_⟩
      refine (callsIn_wide.2 (others_mk bf Ap A A' q.length cp xs.length c xs.length c' w2)).mono ?_
      rintro en w3 ⟨rfl, hw3⟩
      have h4 := dcF w2 (.pointer (some ⟨bf, 0, none⟩)) (.slice Ap q.length cp) (.slice A xs.length c) (.slice A' xs.length c') 30 36 36 36
      rw [← hw3] at h4
      clear hw3
      have hb4 : Below w.heap.size w w3 := hbw2.trans (h4.bl.mono hbw2.size)
      have hc3 := (h4.bl.cell (p := ⟨w.heap.size, 0, none⟩) (by show w.heap.size < _; omega)).trans hc2
      have hf3 : w3.frozen? ⟨w.heap.size, 0, none⟩ = false := (World.frozen?_of_block (h4.bl.block w.heap.size (by omega))).trans hf2
      have hF4 := hF.below hb4 hlf
      have hsz3 := h4.sz
      have hnX : ∀ b, b ≠ w.heap.size → b < w3.heap.size → ∀ e, ¬ DcX w.heap.size w3.heap.size b e := fun b h1 h2 e h => by
        rcases h with h | h
        · exact h1 h
        · omega
      have j1 := (hoq2.kept h4.bl).x2 (X := DcX w.heap.size w3.heap.size) (fun b e h1 h2 => hnX b (by omega) h2 e)
      have j2 := (hI.below hb4).x (X := DcX w.heap.size w3.heap.size) (fun b e h => hnX b (by omega) (by omega) e)
      have j3 := (hI'.below hb4).x (X := DcX w.heap.size w3.heap.size) (fun b e h => hnX b (by omega) (by omega) e)
      have k4 := h4.c3
      rw [HE.out] at k4
      gi_wp2
      refine Gq.range_memX (by omega) (gf := 75) (lb := #[.pointer (some ⟨w2.heap.size, 0, none⟩), .pointer (some ⟨w2.heap.size + 1, 0, none⟩), .pointer (some ⟨w2.heap.size + 2, 0, none⟩), .pointer (some ⟨w2.heap.size + 3, 0, none⟩)]) rfl (enters_of Try.func75 (by kernel_rfl) rfl)
        (others_stops (6 - 1) (by omega) (DcX w.heap.size w3.heap.size) w2.heap.size (w2.heap.size + 1) (w2.heap.size + 2) (w2.heap.size + 3) bf Ap A A' cp c c' q xs ys w3 hl (by omega) HE.out h4.c0 h4.c1 h4.c2 k4 hF4 j1 j2 j3 (hnX _ (by omega) (by omega)) (hnX _ (by omega) (by omega)) (hnX _ (by omega) (by omega)) (hnX _ (by omega) (by omega)) (hnX _ (by omega) (by omega))
          (fun b h h' => by
            rcases h' with h' | ⟨_, h'⟩
            · omega
            · exact absurd h' (by decide)))
        (fun h k => KeepX.trans h k) (fun W l o o' _ h hc => KeepX.put h hc) (fun _ => rfl) (fun _ _ _ _ _ _ _ => trivial)
        (DcI w w3.heap.size Ap cp q xs.length) (fun _ _ _ => False) (DcI.own w w3.heap.size Ap cp q xs.length _ hb4.size) (fun _ _ _ _ _ h _ _ => h)
        ⟨⟨⟨none, 0, hc3, OwnJ.nil _ _ _, Nat.le_refl _⟩, hf3, hoq2.kept h4.bl⟩, hb4⟩
        (fun x => { tmps := #[.pointer (some ⟨bf, 0, none⟩), .slice A xs.length c, .slice A' xs.length c', .int .i64 (D : Int), .int .i64 (E : Int), undef, undef, undef, undef, undef, .slice Ap q.length cp, .pointer (some ⟨w.heap.size, 0, none⟩), .bool true, .int .i64 (t : Int), .int .i64 (x.1 : Int), .slice A xs.length c, .int .i64 (xs.length : Int), .slice A' xs.length c', .int .i64 (xs.length : Int), .bool false, .bool false, .slice A xs.length c, .int .i64 (xs.length : Int), .bool false, .bool false, .bool false, .slice A xs.length c, .bool false, .bool false, .bool false, .int .i64 (D : Int), .bool true, .bool false, .bool false, .bool false, .int .i64 (E : Int), .bool true, .bool false, .bool false, .int .i64 (E : Int), .slice A xs.length c, .int .i64 (xs.length : Int), .int .i64 (D : Int), .int .i64 ((D : Int) + 1), .int .i64 (E : Int), .int .i64 ((D : Int) + 1 + (E : Int)), .int .i64 (t : Int), .int .i64 (t : Int), .int .i64 (t : Int), .bool false, .tuple #[.slice Ap q.length cp, .bool true], .pointer (some ⟨bf, 0, none⟩), .slice A xs.length c, .slice A' xs.length c', .int .i64 (D : Int), .tuple #[.slice Ap q.length cp, .bool true], .slice Ap q.length cp, .bool true, .bool true, .bool false, .pointer (some ⟨bf, 0, none⟩), .slice Ap q.length cp, .slice A xs.length c, .slice A' xs.length c', .func (.func 75) #[] #[.pointer (some ⟨w2.heap.size, 0, none⟩), .pointer (some ⟨w2.heap.size + 1, 0, none⟩), .pointer (some ⟨w2.heap.size + 2, 0, none⟩), .pointer (some ⟨w2.heap.size + 3, 0, none⟩)], .int .i64 (x.1 : Int), undef, undef, undef, undef, undef, undef, undef, undef, undef, undef], defers := [] }) ?assign ?body ?done ?stop
      case assign =>
        intro l x W K hK
        gi_wp2
        exact hK
      case body =>
        rintro lb pre ⟨i, hi⟩ W ⟨⟨⟨Aw, cw, d0, hoj, hW⟩, f0, hop⟩, hBW⟩ _ hlk
        have hol : (oval pre).length ≤ i := by
          have := wrTo_agr q xs ys i
          have h2 : oval pre = wrTo q xs ys i := hlk
          rw [h2]; omega
        clear h4 hb4 hF4 j1 j2 j3 k4 hc3 hf3 hc2 hf2
        have HST := Lib.hid (fun (v' : Value) (W3 : World) (hown : W3.ownsRow w3.heap.size 3 1 v' ((oval pre).length + 1) (intv (oval pre) ++ [.int .i64 (i : Int)])) (hg : (W.alloc (.cells #[.int .i64 (i : Int)] 3)).grownBy W3 (Value.slice Aw (oval pre).length cw).ownBlock) => DcI.step hi (by omega) hW d0 hoj f0 hop hBW _ hown hg)
        have HMI := Lib.hid (fun (W3 : World) (hg : (W.alloc (.cells #[.int .i64 (i : Int)] 3)).grownBy W3 (Value.slice Aw (oval pre).length cw).ownBlock) => dc_mid (by omega) hW d0 hoj f0 _ hg)
        have HOJ := Lib.hid hoj
        clear hoj hop hBW hlk
        gi_wp2_with (gi_at_builtin; refine wpListIn_append_own _ rfl (.tmp 66) (.tmp 68) 24 rfl w3.heap.size 3 i0 (.int .i64 0) 1 8 Try.underlying24 hi0 hz0 hz1 hz2 rfl (by decide) (.slice Aw (oval pre).length cw) (oval pre).length (intv (oval pre)) rfl (HOJ.out.alloc _) ⟨W.heap.size, 0, none⟩ 1 1 [.int .i64 (i : Int)] rfl rfl (fun j u hj => by
            match j, hj with
            | 0, hj => simp at hj; subst hj; exact cell_new W _ _) (fun u hu => by simp at hu; subst hu; rfl) (by simp only [maxLen]; omega) (by omega) (by rw [World.size_alloc]; omega) ?_; intro v' W3 hown3 hgr3 _; obtain ⟨A9, c9, rfl, hO9⟩ := OwnJ.mk' (L := oval pre ++ [i]) (by rw [intv_app]; exact hown3); have hm3 := (HMI.out W3 hgr3).1; have hm4 := (HMI.out W3 hgr3).2)
        exact HST.out _ W3 (by have h9 := hown3; rw [List.length_append, List.length_singleton] at h9; exact h9) hgr3
      case done =>
        rintro Dd pre W hDd hS ⟨⟨⟨Aw, cw, d0, hoj, hW⟩, f0, hop⟩, hBW⟩ hK
        clear h4 hb4 hF4 j1 j2 j3 k4 hc3 hf3 hc2 hf2
        rw [hS] at d0 hoj
        have hag := wrTo_agr q xs ys xs.length
        have hwl : (wrTo q xs ys xs.length).length ≤ 255 := by omega
        have HAG := Lib.hid (fun (h1 : (wrTo q xs ys xs.length).length ≤ E) (h2 : (wrTo q xs ys xs.length).length + (D + 1 + E) ≤ xs.length) => (⟨hqb, hqt, HE.out, hl, of_decide_eq_true HU.out, by omega, by omega, by omega, by omega, by omega, by omega, by omega⟩ : Agd xs ys (D : Int) (E : Int) q))
        clear hag
        by_cases hmo : (wrTo q xs ys xs.length).length ≤ t
        · have hmo2 : ¬ ((t : Int) < ((wrTo q xs ys xs.length).length : Int)) := by omega
          gi_wp2
          gi_region
          have hg4 : W.grownBy (W.setCell ⟨w.heap.size, 0, none⟩ (.slice Aw (wrTo q xs ys xs.length).length cw)).drew (some w.heap.size) := grown_drew (Lib.grownBy_setB (World.grownBy.refl _ _) 0 _)
          obtain ⟨hK4, hld, ho4, hj4, hb5⟩ := dc_end (v := .slice Aw (wrTo q xs ys xs.length).length cw) (by omega) hDd hg4 (World.cell?_setCell_same W ⟨w.heap.size, 0, none⟩ _ d0) hK hoj hop hBW
          clear hg4
          gi_wp2
          refine ⟨by simp, .inl ⟨_, _, rfl, run_takeDeferred hK4, ?_⟩⟩
          exact ⟨_, results_tct rfl aggInts _ _ rfl hld, .inl ⟨q, Ap, Aw, cp, cw, rfl, HAG.out (by omega) (by have := HT.out; omega), ho4, hj4, hb5⟩⟩
        · have hmo2 : (t : Int) < ((wrTo q xs ys xs.length).length : Int) := by omega
          gi_wp2
          have hg4 : W.grownBy (W.setCell ⟨w.heap.size, 0, none⟩ (.slice none 0 0)) (some w.heap.size) := Lib.grownBy_setB (World.grownBy.refl _ _) 0 _
          obtain ⟨hK4, hld, ho4, hj4, hb5⟩ := dc_end (v := .slice none 0 0) (by omega) hDd hg4 (World.cell?_setCell_same W ⟨w.heap.size, 0, none⟩ _ d0) hK hoj hop hBW
          refine ⟨by simp, .inl ⟨_, _, rfl, run_takeDeferred hK4, ?_⟩⟩
          exact ⟨_, results_tct rfl aggInts _ _ rfl hld, .inr ⟨⟨rfl, hb5⟩, HNO.out (.inr (by have := HT.out; omega))⟩⟩
      case stop =>
        rintro Dd k pre W _ h _
        exact h.elim
    · have hS := Lib.hid (dc_set hc2 hbw2)
      gi_wp2
      exact ⟨_, results_tct rfl aggInts _ _ rfl hS.out.1, .inr ⟨⟨rfl, hS.out.2⟩, HNO.out (.inl hno)⟩⟩
  · have hlt2 : ¬ ((t : Int) < (E : Int)) := by omega
    refine callsIn_of_wp_marks Try.func26 rfl trivial ?_ rfl
    simp only [Try.ntmps26, List.size_toArray, List.length_cons, List.length_nil, Nat.reduceAdd, Nat.reduceSub, Array.replicate_succ, Array.replicate_zero, List.push_toArray, List.append_toArray, List.nil_append, List.cons_append]
    gi_wp2_with fail
    refine ⟨trivial, ?_⟩
    refine (callsIn_wide.2 T1.out).mono ?_
    rintro en w1 ⟨rfl, hb1⟩
    obtain ⟨hc, hf, hb, hs1⟩ := HA.out w1 hb1
    clear hb1
    gi_wp2_with fail
    refine ⟨trivial, ?_⟩
    refine (callsIn_wide.2 (T2.out w1)).mono ?_
    rintro en w2 ⟨rfl, rfl⟩
    gi_wp2_with fail
    refine ⟨trivial, ?_⟩
    refine (callsIn_wide.2 (T3.out w1)).mono ?_
    rintro en w2 ⟨rfl, rfl⟩
    have T4 := Lib.hid (nearest_any bf A A' c c' D xs ys w1 (hF.below hb hlf) ((hI.below hb).more hb.size) ((hI'.below hb).more hb.size) HE.out hl HU.out hD hdn)
    rw [← HE.out] at T4
    gi_wp2_with fail
    refine ⟨trivial, ?_⟩
    refine (callsIn_wide.2 T4.out).mono ?_
    rintro en w2 ⟨r0, v0, r1, v1, q, r, hEu, hhigh, hlow, hdiv, hans, hb2⟩
    have hbw2 : Below w.heap.size w w2 := hb.trans (hb2.mono hb.size)
    have hc2 := (hb2.cell (p := ⟨w.heap.size, 0, none⟩) (by show w.heap.size < _; omega)).trans hc
    have hf2 : w2.frozen? ⟨w.heap.size, 0, none⟩ = false := (World.frozen?_of_block (hb2.block w.heap.size (by omega))).trans hf
    have HNO := Lib.hid (dc_no (E := E) HX.out hEu hhigh hlow hdiv)
    have hqb := hdiv.bq
    have hqt := hdiv.tq
    clear T4 hEu hhigh hlow hdiv
    rcases hans with ⟨Ap, cp, rfl, hr0, hqd, hoq⟩ | ⟨rfl, hno⟩
    · have hoq2 := hoq.base (base' := w.heap.size + 1) hs1
      have hs2 := hb2.size
      clear hr0
      gi_wp2_with fail
      refine ⟨trivial, ?_⟩
      refine (callsIn_wide.2 (others_mk bf Ap A A' q.length cp xs.length c xs.length c' w2)).mono ?_
      rintro en w3 ⟨rfl, hw3⟩
      have h4 := dcF w2 (.pointer (some ⟨bf, 0, none⟩)) (.slice Ap q.length cp) (.slice A xs.length c) (.slice A' xs.length c') 30 36 36 36
      rw [← hw3] at h4
      clear hw3
      have hb4 : Below w.heap.size w w3 := hbw2.trans (h4.bl.mono hbw2.size)
      have hc3 := (h4.bl.cell (p := ⟨w.heap.size, 0, none⟩) (by show w.heap.size < _; omega)).trans hc2
      have hf3 : w3.frozen? ⟨w.heap.size, 0, none⟩ = false := (World.frozen?_of_block (h4.bl.block w.heap.size (by omega))).trans hf2
      have hF4 := hF.below hb4 hlf
      have hsz3 := h4.sz
      have hnX : ∀ b, b ≠ w.heap.size → b < w3.heap.size → ∀ e, ¬ DcX w.heap.size w3.heap.size b e := fun b h1 h2 e h => by
        rcases h with h | h
        · exact h1 h
        · omega
      have j1 := (hoq2.kept h4.bl).x2 (X := DcX w.heap.size w3.heap.size) (fun b e h1 h2 => hnX b (by omega) h2 e)
      have j2 := (hI.below hb4).x (X := DcX w.heap.size w3.heap.size) (fun b e h => hnX b (by omega) (by omega) e)
      have j3 := (hI'.below hb4).x (X := DcX w.heap.size w3.heap.size) (fun b e h => hnX b (by omega) (by omega) e)
      have k4 := h4.c3
      rw [HE.out] at k4
      gi_wp2
      refine Gq.range_memX (by omega) (gf := 75) (lb := #[.pointer (some ⟨w2.heap.size, 0, none⟩), .pointer (some ⟨w2.heap.size + 1, 0, none⟩), .pointer (some ⟨w2.heap.size + 2, 0, none⟩), .pointer (some ⟨w2.heap.size + 3, 0, none⟩)]) rfl (enters_of Try.func75 (by kernel_rfl) rfl)
        (others_stops (6 - 1) (by omega) (DcX w.heap.size w3.heap.size) w2.heap.size (w2.heap.size + 1) (w2.heap.size + 2) (w2.heap.size + 3) bf Ap A A' cp c c' q xs ys w3 hl (by omega) HE.out h4.c0 h4.c1 h4.c2 k4 hF4 j1 j2 j3 (hnX _ (by omega) (by omega)) (hnX _ (by omega) (by omega)) (hnX _ (by omega) (by omega)) (hnX _ (by omega) (by omega)) (hnX _ (by omega) (by omega))
          (fun b h h' => by
            rcases h' with h' | ⟨_, h'⟩
            · omega
            · exact absurd h' (by decide)))
        (fun h k => KeepX.trans h k) (fun W l o o' _ h hc => KeepX.put h hc) (fun _ => rfl) (fun _ _ _ _ _ _ _ => trivial)
        (DcI w w3.heap.size Ap cp q xs.length) (fun _ _ _ => False) (DcI.own w w3.heap.size Ap cp q xs.length _ hb4.size) (fun _ _ _ _ _ h _ _ => h)
        ⟨⟨⟨none, 0, hc3, OwnJ.nil _ _ _, Nat.le_refl _⟩, hf3, hoq2.kept h4.bl⟩, hb4⟩
        (fun x => { tmps := #[.pointer (some ⟨bf, 0, none⟩), .slice A xs.length c, .slice A' xs.length c', .int .i64 (D : Int), .int .i64 (E : Int), undef, undef, undef, undef, undef, .slice Ap q.length cp, .pointer (some ⟨w.heap.size, 0, none⟩), .bool true, .int .i64 (E : Int), .int .i64 (x.1 : Int), .slice A xs.length c, .int .i64 (xs.length : Int), .slice A' xs.length c', .int .i64 (xs.length : Int), .bool false, .bool false, .slice A xs.length c, .int .i64 (xs.length : Int), .bool false, .bool false, .bool false, .slice A xs.length c, .bool false, .bool false, .bool false, .int .i64 (D : Int), .bool true, .bool false, .bool false, .bool false, .int .i64 (E : Int), .bool true, .bool false, .bool false, .int .i64 (E : Int), .slice A xs.length c, .int .i64 (xs.length : Int), .int .i64 (D : Int), .int .i64 ((D : Int) + 1), .int .i64 (E : Int), .int .i64 ((D : Int) + 1 + (E : Int)), .int .i64 (t : Int), .int .i64 (E : Int), .int .i64 (E : Int), .bool false, .tuple #[.slice Ap q.length cp, .bool true], .pointer (some ⟨bf, 0, none⟩), .slice A xs.length c, .slice A' xs.length c', .int .i64 (D : Int), .tuple #[.slice Ap q.length cp, .bool true], .slice Ap q.length cp, .bool true, .bool true, .bool false, .pointer (some ⟨bf, 0, none⟩), .slice Ap q.length cp, .slice A xs.length c, .slice A' xs.length c', .func (.func 75) #[] #[.pointer (some ⟨w2.heap.size, 0, none⟩), .pointer (some ⟨w2.heap.size + 1, 0, none⟩), .pointer (some ⟨w2.heap.size + 2, 0, none⟩), .pointer (some ⟨w2.heap.size + 3, 0, none⟩)], .int .i64 (x.1 : Int), undef, undef, undef, undef, undef, undef, undef, undef, undef, undef], defers := [] }) ?assign ?body ?done ?stop
      case assign =>
        intro l x W K hK
        gi_wp2
        exact hK
      case body =>
        rintro lb pre ⟨i, hi⟩ W ⟨⟨⟨Aw, cw, d0, hoj, hW⟩, f0, hop⟩, hBW⟩ _ hlk
        have hol : (oval pre).length ≤ i := by
          have := wrTo_agr q xs ys i
          have h2 : oval pre = wrTo q xs ys i := hlk
          rw [h2]; omega
        clear h4 hb4 hF4 j1 j2 j3 k4 hc3 hf3 hc2 hf2
        have HST := Lib.hid (fun (v' : Value) (W3 : World) (hown : W3.ownsRow w3.heap.size 3 1 v' ((oval pre).length + 1) (intv (oval pre) ++ [.int .i64 (i : Int)])) (hg : (W.alloc (.cells #[.int .i64 (i : Int)] 3)).grownBy W3 (Value.slice Aw (oval pre).length cw).ownBlock) => DcI.step hi (by omega) hW d0 hoj f0 hop hBW _ hown hg)
        have HMI := Lib.hid (fun (W3 : World) (hg : (W.alloc (.cells #[.int .i64 (i : Int)] 3)).grownBy W3 (Value.slice Aw (oval pre).length cw).ownBlock) => dc_mid (by omega) hW d0 hoj f0 _ hg)
        have HOJ := Lib.hid hoj
        clear hoj hop hBW hlk
        gi_wp2_with (gi_at_builtin; refine wpListIn_append_own _ rfl (.tmp 66) (.tmp 68) 24 rfl w3.heap.size 3 i0 (.int .i64 0) 1 8 Try.underlying24 hi0 hz0 hz1 hz2 rfl (by decide) (.slice Aw (oval pre).length cw) (oval pre).length (intv (oval pre)) rfl (HOJ.out.alloc _) ⟨W.heap.size, 0, none⟩ 1 1 [.int .i64 (i : Int)] rfl rfl (fun j u hj => by
            match j, hj with
            | 0, hj => simp at hj; subst hj; exact cell_new W _ _) (fun u hu => by simp at hu; subst hu; rfl) (by simp only [maxLen]; omega) (by omega) (by rw [World.size_alloc]; omega) ?_; intro v' W3 hown3 hgr3 _; obtain ⟨A9, c9, rfl, hO9⟩ := OwnJ.mk' (L := oval pre ++ [i]) (by rw [intv_app]; exact hown3); have hm3 := (HMI.out W3 hgr3).1; have hm4 := (HMI.out W3 hgr3).2)
        exact HST.out _ W3 (by have h9 := hown3; rw [List.length_append, List.length_singleton] at h9; exact h9) hgr3
      case done =>
        rintro Dd pre W hDd hS ⟨⟨⟨Aw, cw, d0, hoj, hW⟩, f0, hop⟩, hBW⟩ hK
        clear h4 hb4 hF4 j1 j2 j3 k4 hc3 hf3 hc2 hf2
        rw [hS] at d0 hoj
        have hag := wrTo_agr q xs ys xs.length
        have hwl : (wrTo q xs ys xs.length).length ≤ 255 := by omega
        have HAG := Lib.hid (fun (h1 : (wrTo q xs ys xs.length).length ≤ E) (h2 : (wrTo q xs ys xs.length).length + (D + 1 + E) ≤ xs.length) => (⟨hqb, hqt, HE.out, hl, of_decide_eq_true HU.out, by omega, by omega, by omega, by omega, by omega, by omega, by omega⟩ : Agd xs ys (D : Int) (E : Int) q))
        clear hag
        by_cases hmo : (wrTo q xs ys xs.length).length ≤ E
        · have hmo2 : ¬ ((E : Int) < ((wrTo q xs ys xs.length).length : Int)) := by omega
          gi_wp2
          gi_region
          have hg4 : W.grownBy (W.setCell ⟨w.heap.size, 0, none⟩ (.slice Aw (wrTo q xs ys xs.length).length cw)).drew (some w.heap.size) := grown_drew (Lib.grownBy_setB (World.grownBy.refl _ _) 0 _)
          obtain ⟨hK4, hld, ho4, hj4, hb5⟩ := dc_end (v := .slice Aw (wrTo q xs ys xs.length).length cw) (by omega) hDd hg4 (World.cell?_setCell_same W ⟨w.heap.size, 0, none⟩ _ d0) hK hoj hop hBW
          clear hg4
          gi_wp2
          refine ⟨by simp, .inl ⟨_, _, rfl, run_takeDeferred hK4, ?_⟩⟩
          exact ⟨_, results_tct rfl aggInts _ _ rfl hld, .inl ⟨q, Ap, Aw, cp, cw, rfl, HAG.out (by omega) (by have := HT.out; omega), ho4, hj4, hb5⟩⟩
        · have hmo2 : (E : Int) < ((wrTo q xs ys xs.length).length : Int) := by omega
          gi_wp2
          have hg4 : W.grownBy (W.setCell ⟨w.heap.size, 0, none⟩ (.slice none 0 0)) (some w.heap.size) := Lib.grownBy_setB (World.grownBy.refl _ _) 0 _
          obtain ⟨hK4, hld, ho4, hj4, hb5⟩ := dc_end (v := .slice none 0 0) (by omega) hDd hg4 (World.cell?_setCell_same W ⟨w.heap.size, 0, none⟩ _ d0) hK hoj hop hBW
          refine ⟨by simp, .inl ⟨_, _, rfl, run_takeDeferred hK4, ?_⟩⟩
          exact ⟨_, results_tct rfl aggInts _ _ rfl hld, .inr ⟨⟨rfl, hb5⟩, HNO.out (.inr (by have := HT.out; omega))⟩⟩
      case stop =>
        rintro Dd k pre W _ h _
        exact h.elim
    · have hS := Lib.hid (dc_set hc2 hbw2)
      gi_wp2
      exact ⟨_, results_tct rfl aggInts _ _ rfl hS.out.1, .inr ⟨⟨rfl, hS.out.2⟩, HNO.out (.inl hno)⟩⟩

/-- What Decode does. -/
theorem bdecode_any (bf : Nat) (A A' : Option Addr) (c c' : Nat) (xs ys : List Nat) (d e : Int) (w : World) (hF : IsField w bf) (hI : In w w.heap.size A c xs) (hI' : In w w.heap.size A' c' ys) :
    Calls Try.prog 26 #[.pointer (some ⟨bf, 0, none⟩), .slice A xs.length c, .slice A' ys.length c', .int .i64 d, .int .i64 e] w (DcAns w xs ys d e) := by
  by_cases he : xs.length = ys.length
  · by_cases hl : xs.length ≤ 255
    · by_cases hbad : unB xs = false ∨ witB d = false ∨ witB e = false
      · refine (bdec_bad bf A A' c c' xs ys d e w hI he hl hbad).mono fun en w' h => .inr ⟨h, fun p hp => ?_⟩
        rcases hbad with h | h | h
        · exact absurd hp.un (of_decide_eq_false h)
        · exact of_decide_eq_false h ⟨hp.d0, hp.d1⟩
        · exact of_decide_eq_false h ⟨hp.e0, hp.e1⟩
      · simp only [not_or, Bool.not_eq_false] at hbad
        obtain ⟨hu, hd, hee⟩ := hbad
        have hd := of_decide_eq_true hd
        have hee := of_decide_eq_true hee
        obtain ⟨D, rfl⟩ : ∃ D : Nat, d = (D : Int) := ⟨d.toNat, by omega⟩
        obtain ⟨E, rfl⟩ : ∃ E : Nat, e = (E : Int) := ⟨e.toNat, by omega⟩
        by_cases hfew : xs.length < D + 1 + E
        · refine (bdec_few bf A A' c c' xs ys D E w hI he hl hu (by omega) (by omega) hfew).mono fun en w' h => .inr ⟨h, fun p hp => ?_⟩
          have := hp.own
          omega
        · exact callsIn_wide.1 (bdec_in bf A A' c c' xs ys D E (xs.length - (D + 1 + E)) w hF hI hI' he hl hu (by omega) (by omega) (by omega))
    · refine (bdec_many bf A A' c c' xs ys d e w he (by omega)).mono fun en w' h => .inr ⟨h, fun p hp => hl hp.few⟩
  · exact (bdec_len bf A A' c c' xs ys d e w he).mono fun en w' h => .inr ⟨h, fun p hp => he hp.len⟩
end Go.Proofs.Ytgikgnhpplmljaa
end
section
/- What the definition's own Picks (package shamrockref01) does: all ways to pick some of so many, as rows of ints in memory of its own. -/
namespace Go.Proofs.Ytgikgnhpplmljaa
open Go.RowKit Go.Shelf Gw Pol

/-- A row of ints: its block, its capacity, its numbers. -/
structure Jr where
  g : Nat
  c : Nat
  l : List Nat
def jv (r : Jr) : Value := .slice (some ⟨r.g, 0, none⟩) r.l.length r.c
theorem jv_one (r : Jr) : (jv r).oneCell' = true := rfl
/-- Rows of ints of the call's own. -/
structure GrJ (base : Nat) (w : World) (v : Value) (R : List Jr) : Prop where
  own : w.ownsRow base 24 1 v R.length (R.map jv)
  row : ∀ r ∈ R, OwnJ w base 3 (some ⟨r.g, 0, none⟩) r.c r.l
theorem rows_info : (Try.prog.info? 24).map (fun i => (i.zero, i.size, i.bytes)) = some (some (.slice none 0 0), 1, 24) := by kernel_rfl
section
variable {base : Nat} {w w' : World} {v : Value} {R : List Jr}
theorem GrJ.nil (base : Nat) (w : World) : GrJ base w (.slice none 0 0) [] := ⟨World.ownsRow_nil w base _ 1, fun r h => by cases h⟩
/-- The block of rows that are appended to. -/
theorem ownsRow_block {e : TypeId} {size n : Nat} {xs : List Value} (h : w.ownsRow base e size v n xs) {b : Nat} (hb : v.ownBlock = some b) : base ≤ b ∧ ∃ cs, w.heap[b]? = some (.cells cs e (0, 0)) := by
  rcases h.2 with ⟨hv, _⟩ | ⟨g, cap, cur, hv, hg, hgb, _⟩
  · subst hv; cases hb
  · subst hv
    simp [Value.ownBlock] at hb
    subst hb
    exact ⟨hg, cur, hgb⟩
theorem ownsRow_grown {e : TypeId} {size n : Nat} {xs : List Value} {row : Option Nat} (h : w.ownsRow base e size v n xs) (hg : w.grownBy w' row) (hr : ∀ b, v.ownBlock = some b → row ≠ some b) : w'.ownsRow base e size v n xs := by
  refine ⟨h.1, ?_⟩
  rcases h.2 with h0 | ⟨g, cap, cur, hv, hb, hgb, h0⟩
  · exact .inl h0
  · exact .inr ⟨g, cap, cur, hv, hb, (hg.block g (Array.getElem?_eq_some_iff.1 hgb).1 (fun e => hr g (by subst hv; simp [Value.ownBlock]) e.symm)).trans hgb, h0⟩
theorem GrJ.kept (h : GrJ base w v R) (hb : Below w.heap.size w w') : GrJ base w' v R :=
  ⟨ownsRow_grown h.own (row := none) ⟨hb.os, hb.tape, hb.output, hb.size, fun k hk _ => hb.block k hk⟩ (fun _ _ e => by cases e), fun r hr => (h.row r hr).kept hb⟩
/-- Where its blocks stand, it stands. -/
theorem GrJ.stands (h : GrJ base w v R) (hs : ∀ b, base ≤ b → b < w.heap.size → w'.heap[b]? = w.heap[b]?) : GrJ base w' v R := by
  refine ⟨⟨h.own.1, ?_⟩, fun r hr => ⟨(h.row r hr).1, ?_⟩⟩
  · rcases h.own.2 with h0 | ⟨g, cap, cur, hv, hb, hgb, h0⟩
    · exact .inl h0
    · exact .inr ⟨g, cap, cur, hv, hb, (hs g hb (Array.getElem?_eq_some_iff.1 hgb).1).trans hgb, h0⟩
  · rcases (h.row r hr).2 with h0 | ⟨g, cap, cur, hv, hb, hgb, h0⟩
    · exact .inl h0
    · exact .inr ⟨g, cap, cur, hv, hb, (hs g hb (Array.getElem?_eq_some_iff.1 hgb).1).trans hgb, h0⟩
theorem GrJ.rebase {base' : Nat} (h : GrJ base w v R) (hb : base' ≤ base) : GrJ base' w v R := by
  refine ⟨⟨h.own.1, ?_⟩, fun r hr => (h.row r hr).rebase hb⟩
  rcases h.own.2 with h0 | ⟨g, cap, cur, hv, hg, h0⟩
  · exact .inl h0
  · exact .inr ⟨g, cap, cur, hv, by omega, h0⟩
theorem GrJ.shape (h : GrJ base w v R) : ∃ A c, v = .slice A R.length c ∧ R.length ≤ c ∧ (A = none → c = 0) := by
  rcases h.own.2 with ⟨hv, h0⟩ | ⟨g, cap, cur, hv, _, _, h1, _⟩
  · subst hv; exact ⟨none, 0, by rw [h0], by omega, fun _ => rfl⟩
  · subst hv; exact ⟨_, cap, rfl, h1, fun h => by cases h⟩
theorem GrJ.at_ (h : GrJ base w v R) {i : Nat} (hi : i < R.length) : ∃ g c, v = .slice (some ⟨g, 0, none⟩) R.length c ∧ R.length ≤ c ∧ base ≤ g ∧ (∃ cs, w.heap[g]? = some (.cells cs 24 (0, 0))) ∧ w.cell? ⟨g, i, none⟩ = some (jv R[i]) := by
  rcases h.own.2 with ⟨hv, h0⟩ | ⟨g, cap, cur, hv, hb, hg, h1, _⟩
  · omega
  · subst hv
    refine ⟨g, cap, rfl, h1, hb, ⟨cur, hg⟩, ?_⟩
    rw [h.own.cellAt i (by omega)]
    simp [hi]
/-- A row more. -/
theorem GrJ.step {w1 w2 w3 : World} {v' : Value} {r : Jr} {o : Obj} (h : GrJ base w v R) (hs : base ≤ w.heap.size) (hb : Below w.heap.size w w1) (hr : OwnJ w1 w.heap.size 3 (some ⟨r.g, 0, none⟩) r.c r.l) (hw2 : w2 = w1.alloc o) (hown : w3.ownsRow base 24 1 v' (R.length + 1) (R.map jv ++ [jv r])) (hg : w2.grownBy w3 v.ownBlock) :
    GrJ base w3 v' (R ++ [r]) ∧ Below base w w3 := by
  subst hw2
  have h1 := h.kept hb
  have hbk : ∀ b, v.ownBlock = some b → base ≤ b ∧ ∃ cs, w1.heap[b]? = some (.cells cs 24 (0, 0)) := fun b hb => ownsRow_block h1.own hb
  have keep : ∀ {A : Option Addr} {c base' : Nat} {l : List Nat}, OwnJ w1 base' 3 A c l → OwnJ w3 base' 3 A c l := fun ho => (ho.alloc o).grown hg (fun b cs _ h2 e => by
    obtain ⟨_, cs', h3⟩ := hbk b e
    rw [Below.heap_alloc _ _ _ (Array.getElem?_eq_some_iff.1 h3).1, h3] at h2
    injection h2 with h2
    injection h2 with _ h4
    exact absurd h4 (by decide))
  refine ⟨⟨?_, fun r' hr' => ?_⟩, ?_⟩
  · rw [List.length_append, List.map_append]; exact hown
  · rcases List.mem_append.1 hr' with h2 | h2
    · exact keep (h1.row r' h2)
    · have : r' = r := by simpa using h2
      subst this
      exact (keep hr).rebase hs
  · exact (((Below.refl base w).trans (hb.mono hs)).alloc (Nat.le_trans hs hb.size) o).grown hg (by rw [World.size_alloc]; have := hb.size; omega) (fun b hb => (hbk b hb).1)
end
theorem ownJ_lit0 (w : World) (base : Nat) (hb : base ≤ w.heap.size) : OwnJ (w.alloc (.cells #[] 3)) base 3 (some ⟨w.heap.size, 0, none⟩) 0 [] := World.ownsRow_made w #[] 0 hb (by simp [maxLen]) rfl
/-- What Picks answers. -/
def PkAns (s n : Nat) (w : World) (e : Ending) (w' : World) : Prop :=
  ∃ (v : Value) (R : List Jr), e = .returned v ∧ R.map Jr.l = pk s n ∧ GrJ w.heap.size w' v R ∧ Below w.heap.size w w'

set_option maxRecDepth 100000 in
set_option maxHeartbeats 1000000 in
theorem picks_zero (n : Nat) (w : World) : Calls Try.prog 58 #[.int .i64 (n : Int), .int .i64 (0 : Nat)] w (PkAns 0 n w) := by
  go_enter Try.func58, Try.ntmps58
  go_wp2
  go_ret
  refine ⟨_, [⟨w.heap.size, 0, []⟩], rfl, rfl, ⟨?_, fun r hr => ?_⟩, ((Below.refl _ w).alloc (Nat.le_refl _) _).alloc (by simp) _⟩
  · have := World.ownsRow_lit (base := w.heap.size) (e := 24) (size := 1) (w.alloc (.cells #[] 3)) #[.slice (some ⟨w.heap.size, 0, none⟩) 0 0] 1 (by simp) (by simp [maxLen]) rfl
    rw [World.size_alloc] at this
    exact this
  · have : r = ⟨w.heap.size, 0, []⟩ := by simpa using hr
    subst this
    exact (ownJ_lit0 w w.heap.size (Nat.le_refl _)).alloc _

def PkO (w : World) (s n : Nat) (v last : Value) (wr : World) : Prop :=
  ∃ (j : Nat) (R : List Jr), j ≤ n - s ∧ last = .int .i64 ((s + j : Nat) : Int) ∧ R.map Jr.l = pkL (pk s) s j ∧ GrJ w.heap.size wr v R ∧ Below w.heap.size w wr
/-- In the inner loop: rows Q are read, which lie from bq on below sq. -/
def PkI (w : World) (s j : Nat) (bq : Nat) (w3 : World) (Q : List Jr) (v i : Value) (wr : World) : Prop :=
  ∃ (k : Nat) (R : List Jr), k ≤ Q.length ∧ i = .int .i64 (k : Int) ∧ R.map Jr.l = pkL (pk s) s j ++ ((Q.take k).map Jr.l).map (· ++ [s + j]) ∧ GrJ w.heap.size wr v R ∧ Below w.heap.size w wr ∧
    (∀ b, bq ≤ b → b < w3.heap.size → wr.heap[b]? = w3.heap[b]?) ∧ (∀ g, v.ownBlock = some g → g < bq ∨ w3.heap.size ≤ g) ∧ w3.heap.size ≤ wr.heap.size

set_option maxRecDepth 100000 in
set_option maxHeartbeats 4000000 in
theorem picks_any (s : Nat) : ∀ (n : Nat) (w : World), n ≤ 20 → s ≤ 1000 → Calls Try.prog 58 #[.int .i64 (n : Int), .int .i64 (s : Int)] w (PkAns s n w) := by
  induction s with
  | zero => intro n w _ _; exact picks_zero n w
  | succ s ih =>
    intro n w hn hs
    obtain ⟨i0, hi0, hz0, hz1, hz2⟩ := info_parts pint_info
    obtain ⟨i1, hj0, hj1, hj2, hj3⟩ := info_parts rows_info
    have hs0 : (((s + 1 : Nat) : Int) == 0) = false := beq_eq_false_iff_ne.2 (by omega)
    have hs1 : ((s + 1 : Nat) : Int) - 1 = (s : Int) := by omega
    obtain ⟨S, hS⟩ : ∃ S : Int, S = ((s + 1 : Nat) : Int) := ⟨_, rfl⟩
    have hSb : 0 < S ∧ S ≤ 1000 := by omega
    rw [← hS] at hs0 hs1 ⊢
    have HS := Lib.hid hS
    clear hS
    have HIH := Lib.hid ih
    clear ih
    go_enter Try.func58, Try.ntmps58
    go_wp2
    go_loopw [5, 6] (PkO w s n) (fun _ l _ => n - (intOf l).toNat)
    case atStart => exact ⟨0, [], Nat.zero_le _, by first | rfl | (rw [hs1]; rfl), rfl, GrJ.nil _ _, Below.refl _ _⟩
    case round =>
      obtain ⟨j, R, hj, rfl, hR, hG, hbel⟩ := hrel
      obtain ⟨A, c, rfl, hc, hcn⟩ := hG.shape
      obtain ⟨t, ht⟩ : ∃ t, t = s + j := ⟨_, rfl⟩
      rw [← ht]
      by_cases hlt : t < n
      · have T := Lib.hid (HIH.out t wr (by omega) (by omega))
        have HG := Lib.hid hG
        have HT := Lib.hid ht
        have HR := Lib.hid hR
        have HB := Lib.hid hbel
        clear hG ht hR hbel
        go_wp2_with fail
        refine T.out.mono ?_
        rintro e w3 ⟨vq, Q, rfl, hQ, hGQ, hb3⟩
        obtain ⟨Aq, cq, rfl, hcq, hcqn⟩ := hGQ.shape
        have hb3s := hb3.size
        have hBs := HB.out.size
        have hQl : Q.length ≤ 2 ^ t := by have h := congrArg List.length hQ; rw [List.length_map] at h; rw [h]; exact pk_len s t
        have hp20 : 2 ^ t ≤ 2 ^ 20 := Nat.pow_le_pow_right (by omega) (by omega)
        have HQL := Lib.hid (Nat.le_trans hQl hp20)
        have hG3 := Lib.hid (HG.out.kept hb3)
        have hbel3 := Lib.hid (HB.out.trans (hb3.mono hBs))
        have hfar : ∀ g, (Value.slice A R.length c).ownBlock = some g → g < wr.heap.size ∨ w3.heap.size ≤ g := fun g hg => by
          obtain ⟨_, cs, h2⟩ := ownsRow_block HG.out.own hg
          exact .inl (Array.getElem?_eq_some_iff.1 h2).1
        have HFAR := Lib.hid hfar
        have HGQ := Lib.hid hGQ
        have HQ := Lib.hid hQ
        have HPL := Lib.hid (pkL_len (pk s) s (pk_len s) j)
        clear hfar hGQ hQ hb3 T hp20 hQl
        obtain ⟨bq, hbq⟩ : ∃ bq, bq = wr.heap.size := ⟨_, rfl⟩
        rw [← hbq] at HFAR HGQ hb3s hBs
        clear hbq HB HG
        go_wp2
        go_loopw [5, 8] (PkI w s j bq w3 Q) (fun _ i _ => Q.length - (intOf i).toNat)
        case atStart => exact ⟨0, R, Nat.zero_le _, rfl, by rw [HR.out]; simp, hG3.out, hbel3.out, fun _ _ _ => rfl, HFAR.out, Nat.le_refl _⟩
        case round =>
          clear HFAR hG3 hbel3 HR
          obtain ⟨k, R2, hk, rfl, hR2, hG2, hbel2, hst, hfr, hsz⟩ := hrel
          obtain ⟨A5, c5, rfl, _, _⟩ := hG2.shape
          have hG4 := HGQ.out.stands hst
          have hbs2 := hbel2.size
          have hR2l : R2.length = (pkL (pk s) s j).length + min k Q.length := by have h := congrArg List.length hR2; simpa using h
          have hp2 : 2 ^ (s + j) ≤ 2 ^ 20 := Nat.pow_le_pow_right (by omega) (by have := HT.out; omega)
          have hR2b : R2.length ≤ 2097152 := by have := HPL.out; have := HQL.out; have := Nat.two_pow_pos s; omega
          have HR2 := Lib.hid hR2
          clear hR2l hp2 hR2
          have hQb : Q.length ≤ 1048576 := HQL.out
          by_cases hkq : k < Q.length
          · obtain ⟨gq, cq2, hvq, hcq2, _, _, hcell⟩ := hG4.at_ hkq
            injection hvq with hA1 _ hA2
            subst hA1 hA2
            have hrow := hG4.row Q[k] (List.getElem_mem hkq)
            obtain ⟨r, hr⟩ : ∃ r, r = Q[k] := ⟨_, rfl⟩
            rw [← hr] at hcell hrow
            have hrl : r.l.length = s := by
              have : r.l ∈ pk s t := by rw [← HQ.out, hr]; exact List.mem_map.2 ⟨Q[k], List.getElem_mem hkq, rfl⟩
              exact (pk_sound s t _ this).1
            have HTK := Lib.hid (show ((Q.take (k + 1)).map Jr.l) = ((Q.take k).map Jr.l) ++ [r.l] by rw [List.take_add_one, List.getElem?_eq_getElem hkq, List.map_append, hr]; rfl)
            have hrl2 : r.l.length ≤ 1000 := by omega
            have HRW := Lib.hid hrow
            have HG2 := Lib.hid hG2
            have HFR := Lib.hid hfr
            have HST := Lib.hid hst
            clear hrow hG2 hr hG4 hrl hfr hst
            have hcell' : wr.cell? ⟨gq, k, none⟩ = some (.slice (some ⟨r.g, 0, none⟩) r.l.length r.c) := hcell
            clear hcell
            have q1 : ∀ o, (wr.alloc o).cell? ⟨gq, k, none⟩ = some (.slice (some ⟨r.g, 0, none⟩) r.l.length r.c) := fun o => (World.cell?_alloc_lt wr o _ (cell_lt hcell')).trans hcell'
            go_wp2_with (first
              | (at_builtin; refine wpList_append_own _ rfl (.tmp 31) (.tmp 35) 24 rfl wr.heap.size 3 i0 (.int .i64 0) 1 8 Try.underlying24 hi0 hz0 hz1 hz2 rfl (by decide) (.slice (some ⟨wr.heap.size, 0, none⟩) 0 0) 0 [] rfl (ownJ_lit0 wr wr.heap.size (Nat.le_refl _)) ⟨r.g, 0, none⟩ r.l.length r.c (intv r.l) rfl (by rw [intv_len, Nat.mul_one]) (fun i u hi => ?_) (intv_one _) (by simp only [maxLen]; omega) (by omega) (by rw [World.size_alloc]; omega) ?_
                 · obtain ⟨x, hx, rfl⟩ : ∃ x, r.l[i]? = some x ∧ u = .int .i64 (x : Int) := by
                     unfold intv at hi
                     rw [List.getElem?_map] at hi
                     cases hx : r.l[i]? with
                     | none => rw [hx] at hi; cases hi
                     | some x => rw [hx] at hi; injection hi with hi; exact ⟨x, rfl, hi.symm⟩
                   obtain ⟨g9, hg9, _, hc9⟩ := ((HRW.out).alloc (.cells #[] 3)).at_ hx
                   injection hg9 with hg9
                   injection hg9 with hg9
                   subst hg9
                   rw [addr_add, Nat.zero_add]
                   exact hc9
                 intro v2 w2 hown2 hgr2 _
                 rw [List.nil_append] at hown2
                 obtain ⟨A2, c2, rfl, hO2⟩ := OwnJ.mk' (L := r.l) hown2
                 have hB2 : Below wr.heap.size wr w2 := ((Below.refl wr.heap.size wr).alloc (Nat.le_refl _) _).grown hgr2 (by rw [World.size_alloc]; omega) (fun b hb => by simp [Value.ownBlock] at hb; omega))
              | (at_builtin; refine wpList_append_own _ rfl (.tmp 36) (.tmp 38) 24 rfl wr.heap.size 3 i0 (.int .i64 0) 1 8 Try.underlying24 hi0 hz0 hz1 hz2 rfl (by decide) (.slice A2 r.l.length c2) r.l.length (intv r.l) rfl (hO2.alloc _) ⟨w2.heap.size, 0, none⟩ 1 1 [.int .i64 (t : Int)] rfl rfl (fun j u hj => by
                    match j, hj with
                    | 0, hj => simp at hj; subst hj; exact cell_new w2 _ _) (fun u hu => by simp at hu; subst hu; rfl) (by simp only [maxLen]; omega) (by omega) (by rw [World.size_alloc]; have := hB2.size; omega) ?_
                 intro v4 w4 hown4 hgr4 _
                 have hB4 : Below wr.heap.size wr w4 := ((hB2.trans (Below.refl _ _)).alloc hB2.size _).grown hgr4 (by rw [World.size_alloc]; have := hB2.size; omega) (fun b hb => (hO2.block hb).1)
                 obtain ⟨A4, c4, rfl, hO4⟩ := OwnJ.mk' (L := r.l ++ [t]) (by rw [intv_app]; exact hown4)
                 obtain ⟨g4, rfl, _, _⟩ := hO4.at_ (i := r.l.length) (l := t) (by simp))
              | (at_builtin; refine wpList_append_own_at _ rfl (.tmp 30) (.tmp 40) 87 rfl w.heap.size 24 i1 (.slice none 0 0) 1 24 Try.underlying87 hj0 hj1 hj2 hj3 rfl (by decide) (.slice A5 R2.length c5) R2.length (R2.map jv) rfl ((HG2.out.kept hB4).own.alloc _) ⟨w4.heap.size, 0, none⟩ 1 1 [.slice (some ⟨g4, 0, none⟩) (r.l.length + 1) c4] rfl rfl (fun j u hj => by
                    match j, hj with
                    | 0, hj => simp at hj; subst hj; exact cell_new w4 _ _) (fun u hu => by simp at hu; subst hu; rfl) (by simp only [maxLen]; omega) (by omega) (by rw [World.size_alloc]; have := hB4.size; omega) ?_
                 intro v6 w6 hown6 hgr6 _ hob6))
            have hjv : jv ⟨g4, c4, r.l ++ [t]⟩ = .slice (some ⟨g4, 0, none⟩) (r.l.length + 1) c4 := by simp [jv]
            obtain ⟨hG6, hB6⟩ := GrJ.step (r := ⟨g4, c4, r.l ++ [t]⟩) HG2.out hbs2 hB4 hO4 rfl (by rw [hjv]; exact hown6) hgr6
            have hst6 : ∀ b, bq ≤ b → b < w3.heap.size → w6.heap[b]? = w3.heap[b]? := fun b h1 h2 => by
              refine (hgr6.block b (by rw [World.size_alloc]; have := hB4.size; omega) (fun e => ?_)).trans ((Below.heap_alloc _ _ _ (by have := hB4.size; omega)).trans ((hB4.block b (by omega)).trans (HST.out b h1 h2)))
              have := HFR.out b e.symm
              omega
            have hfr6 : ∀ g, v6.ownBlock = some g → g < bq ∨ w3.heap.size ≤ g := fun g hg => by
              rcases hob6 with h | h
              · exact HFR.out g (h ▸ hg)
              · rw [h, World.size_alloc] at hg
                injection hg with hg
                have := hB4.size
                exact .inr (by omega)
            have hsz6 : w3.heap.size ≤ w6.heap.size := by have h1 := hgr6.size; rw [World.size_alloc] at h1; have := hB4.size; omega
            have HL6 := Lib.hid (show (R2 ++ [(⟨g4, c4, r.l ++ [t]⟩ : Jr)]).map Jr.l = pkL (pk s) s j ++ ((Q.take (k + 1)).map Jr.l).map (· ++ [s + j]) by
              rw [List.map_append, HR2.out, HTK.out, List.map_append, List.append_assoc, ← HT.out]; rfl)
            have HG6 := Lib.hid hG6
            have HB6 := Lib.hid (hbel2.trans hB6)
            have H6a := Lib.hid hst6
            have H6b := Lib.hid hfr6
            clear hG6 hB6 hst6 hfr6 hown6 hgr6 hob6 hown4 hgr4 hown2 hgr2 hO2 hO4 q1 hcell'
            go_roundw
            case rel => exact ⟨k + 1, _, by omega, by go_num, HL6.out, HG6.out, HB6.out, H6a.out, H6b.out, hsz6⟩
            case measure => simp [intOf]; omega
          · obtain rfl : k = Q.length := by omega
            have HL6 := Lib.hid (show R2.map Jr.l = pkL (pk s) s (j + 1) by
              rw [HR2.out, List.take_length, HQ.out, HT.out]; rfl)
            have HG6 := Lib.hid hG2
            have HB6 := Lib.hid hbel2
            clear hG2 hbel2 hst hfr hG4
            go_wp2
            go_roundw
            case rel => exact ⟨j + 1, R2, by have := HT.out; omega, by have := HT.out; go_num, HL6.out, HG6.out, HB6.out⟩
            case measure => simp [intOf]; omega
      · have hje : n - s ≤ j := by omega
        have HRR := Lib.hid (show R.map Jr.l = pk (s + 1) n by rw [hR]; show _ = pkL (pk s) s (n - s); rw [show j = n - s by omega])
        have HG := Lib.hid hG
        have HB := Lib.hid hbel
        clear hG hbel hR ht
        go_wp2
        go_ret
        exact ⟨_, R, rfl, HRR.out, HG.out, HB.out⟩
end Go.Proofs.Ytgikgnhpplmljaa
end
section
/- Two rows of bytes of the call's own, each in a block of its own. -/
namespace Gw
open Go Go.RowKit Go.Shelf
/-- Two rows, each in a block of its own. -/
structure AB (base : Nat) (e : TypeId) (W : World) (A : Option Addr) (c : Nat) (l : List Nat) (A' : Option Addr) (c' : Nat) (l' : List Nat) : Prop where
  a : Own W base e A c l
  b : Own W base e A' c' l'
  dis : ∀ g n n' : Nat, (Value.slice A n c).ownBlock = some g → (Value.slice A' n' c').ownBlock ≠ some g
section
variable {base c c' : Nat} {e : TypeId} {W W' : World} {A A' : Option Addr} {l l' : List Nat}
theorem AB.alloc (h : AB base e W A c l A' c' l') (o : Obj) : AB base e (W.alloc o) A c l A' c' l' := ⟨h.a.alloc o, h.b.alloc o, h.dis⟩
theorem AB.drewN (h : AB base e W A c l A' c' l') (n : Nat) : AB base e (W.drewN n) A c l A' c' l' := ⟨h.a.drewN n, h.b.drewN n, h.dis⟩
theorem AB.swap (h : AB base e W A c l A' c' l') : AB base e W A' c' l' A c l := ⟨h.b, h.a, fun g n n' h1 h2 => h.dis g n' n h2 h1⟩
theorem ownB {W : World} {base c n : Nat} {e : TypeId} {A : Option Addr} {l : List Nat} (h : Own W base e A c l) {r : Nat} (hr : (Value.slice A n c).ownBlock = some r) : base ≤ r ∧ r < W.heap.size := by
  rcases h.1.2 with ⟨hv, _⟩ | ⟨g, cap, cur, hv, hb, hg, _⟩
  · injection hv with h1 _ h3; subst h1; cases hr
  · injection hv with h1 _ h3
    subst h1
    simp [Value.ownBlock] at hr
    subst hr
    exact ⟨hb, (Array.getElem?_eq_some_iff.1 hg).1⟩
/-- The first one has grown by a byte. -/
theorem AB.app {v' : Value} {n v : Nat} (h : AB base e W A c l A' c' l') (hv : v < 256) (hown : W'.ownsRow base e 1 v' (n + 1) (bys l ++ [.int .u8 (v : Int)])) (hg : W.grownBy W' (Value.slice A n c).ownBlock) (hat : v'.ownBlock = (Value.slice A n c).ownBlock ∨ v'.ownBlock = some W.heap.size) :
    ∃ A2 c2, v' = .slice A2 (l ++ [v]).length c2 ∧ AB base e W' A2 c2 (l ++ [v]) A' c' l' := by
  obtain ⟨A2, c2, rfl, hO⟩ := Own.mk' (l := l ++ [v]) (by rw [bys_app]; exact hown) (Pol.BB.append h.a.2 (Pol.BB.cons hv Pol.BB.nil))
  refine ⟨A2, c2, rfl, hO, ?_, fun g m m' h1 h2 => ?_⟩
  · refine ⟨⟨h.b.1.1, ?_⟩, h.b.2⟩
    rcases h.b.1.2 with h0 | ⟨g, cap, cur, hv, hb, hgb, h0⟩
    · exact .inl h0
    · refine .inr ⟨g, cap, cur, hv, hb, (hg.block g (Array.getElem?_eq_some_iff.1 hgb).1 (fun e => ?_)).trans hgb, h0⟩
      injection hv with h1 _ h3
      refine h.dis g n l'.length e.symm ?_
      subst h1
      simp [Value.ownBlock]
  · have h3 : (Value.slice A2 (l ++ [v]).length c2).ownBlock = some g := own_any h1
    rw [h3] at hat
    rcases hat with h4 | h4
    · exact h.dis g n m' h4.symm h2
    · injection h4 with h4
      have := (ownB h.b h2).2
      omega
theorem AB.below {w : World} {n : Nat} (h : AB base e W A c l A' c' l') (hB : Below base w W) (hs : base ≤ W.heap.size) (hg : W.grownBy W' (Value.slice A n c).ownBlock) : Below base w W' := hB.grown hg hs (fun _ hk => (ownB h.a hk).1)
theorem grown_cell {n p : Nat} {v : Value} (hg : W.grownBy W' (Value.slice A n c).ownBlock) (hc : W.cell? ⟨p, 0, none⟩ = some v) (hp : ∀ r, (Value.slice A n c).ownBlock = some r → r < p) : W'.cell? ⟨p, 0, none⟩ = some v :=
  (World.cell?_of_block (w := W) (a := ⟨p, 0, none⟩) (hg.block p (cell_lt hc) (fun e => by have := hp p e.symm; omega))).trans hc
/-- The second one stands where the first is turned. -/
theorem AB.other {n : Nat} (h : AB base e W A c l A' c' l') (hg : W.grownBy W' (Value.slice A n c).ownBlock) : Own W' base e A' c' l' := by
  refine ⟨⟨h.b.1.1, ?_⟩, h.b.2⟩
  rcases h.b.1.2 with h0 | ⟨g, cap, cur, hv, hb, hgb, h0⟩
  · exact .inl h0
  · refine .inr ⟨g, cap, cur, hv, hb, (hg.block g (Array.getElem?_eq_some_iff.1 hgb).1 (fun e => ?_)).trans hgb, h0⟩
    injection hv with h1 _ h3
    refine h.dis g n l'.length e.symm ?_
    subst h1
    simp [Value.ownBlock]
theorem AB.start (W : World) (base : Nat) (e : TypeId) : AB base e W none 0 [] none 0 [] := ⟨Own.none_ _ _ _, Own.none_ _ _ _, fun g n n' h => by cases h⟩
end
theorem news_one {W : World} {p : Nat} {v : Value} (h : W.cell? ⟨p, 0, none⟩ = some v) : ∀ j u, ([v] : List Value)[j]? = some u → W.cell? ((⟨p, 0, none⟩ : Addr).add j) = some u := fun j u hj => by
  match j, hj with
  | 0, hj => simp at hj; subst hj; rw [addr_add]; exact h
end Gw
end
section
/- Two rows of bytes of the call's own that grow side by side inside a region that leaves its order open. -/
namespace Gw
open Go Go.RowKit Go.Shelf
/-- append of one-cell values, with where the new slice lies, as one step of a region that leaves its order open. -/
theorem step_apAt {P : Program} {w : World} {ops : Array Oper} {o : Oper} {a : Act} {K : Act → World → Prop} {Q : Exit → Act → World → Prop} {E : Prop} (hgd : o.guard = none) (s x : Operand) (t : TypeId)
    (ho : o.op = .call { callee := .builtin .append, args := #[s, x], argTypes := #[t, t] })
    (base : Nat) (e : TypeId) (i : TypeInfo) (z : Value) (size bytes : Nat) (ht : P.underlying t = some (.slice e)) (hi : P.info? e = some i) (hz : i.zero = some z)
    (hsize : i.size = size) (hby : i.bytes = bytes) (hzs : z.cells.size = size) (hsz : 0 < size)
    (v : Value) (n : Nat) (xs : List Value) (hs : a.eval s = v) (hown : w.ownsRow base e size v n xs)
    (ad : Addr) (m c : Nat) (news : List Value) (hx : a.eval x = .slice (some ad) m c) (hl : news.length = m * size) (hnews : ∀ j u, news[j]? = some u → w.cell? (ad.add j) = some u) (h1 : ∀ u ∈ news, u.oneCell' = true)
    (h63 : n + m ≤ maxLen) (hbytes : (n + m) * bytes ≤ 140737488355328) (hbase : base ≤ w.heap.size)
    (h : ∀ v' w', w'.ownsRow base e size v' (n + m) (xs ++ news) → w.grownBy w' v.ownBlock → (v'.ownBlock = v.ownBlock ∨ v'.ownBlock = some w.heap.size) → K (a.put o.dst v') w') : if Region.wanted o (yielded ops a.tmps) = true then Oper.wp P o a w K Q else E := by
  have hw : Region.wanted o (yielded ops a.tmps) = true := by simp [Region.wanted, hgd]
  rw [if_pos hw]
  obtain ⟨v', w', hr, h2, h3, _, h4⟩ := run_append_own_at (P := P) w base t o.type e i z size bytes ht hi hz hsize hby hzs hsz v n xs hown ad m c news hl hnews h1 h63 hbytes hbase
  unfold Oper.wp execOp
  simp only [ho, resolve, invoke, builtin, Sem.run_bind, Sem.run_pure, Result.andThen_ok, List.map_toArray, List.map_cons, List.map_nil, hs, hx, hr]
  exact h v' w' h2 h3 h4

theorem cell_1a (w : World) (v : Value) (t : TypeId) (o : Obj) : ((w.alloc (.cells #[v] t)).alloc o).cell? ⟨w.heap.size, 0, none⟩ = some v := by
  rw [World.cell?_alloc_lt _ _ _ (by simp)]; exact cell_new w v t
theorem cell_2a (w : World) (v : Value) (t : TypeId) (o : Obj) : ((w.alloc o).alloc (.cells #[v] t)).cell? ⟨w.heap.size + 1, 0, none⟩ = some v := by
  have := cell_new (w.alloc o) v t
  rw [World.size_alloc] at this
  exact this
theorem Own.rowN {w : World} {base n : Nat} {e : TypeId} {A : Option Addr} {c : Nat} {l : List Nat} (h : Own w base e A c l) (hn : n = l.length) : w.ownsRow base e 1 (.slice A n c) n (bys l) := by subst hn; exact h.1
end Gw
end
section
/- Two rows of bytes of the call's own that grow side by side. -/
namespace Gw
open Go Go.RowKit Go.Shelf
end Gw
end
section
/- What the definition's own Agrees (package shamrockref01) does. -/
namespace Go.Proofs.Ytgikgnhpplmljaa
open Go.RowKit Go.Shelf Gw Pol
set_option maxRecDepth 100000 in
set_option maxHeartbeats 1000000 in
theorem agrees_any (A A1 A2 : Option Addr) (c c1 c2 : Nat) (p xs ys : List Nat) (w : World) (B : Nat) (hp : In w B A c p) (hx : In w B A1 c1 xs) (hy : In w B A2 c2 ys) (hl : xs.length ≤ ys.length) (hcm : p.length ≤ 140737488355328) (hcm2 : xs.length ≤ 140737488355328) :
    Calls Try.prog 59 #[.slice A p.length c, .slice A1 xs.length c1, .slice A2 ys.length c2] w fun e w' => e = .returned (.int .i64 (agrTo p xs ys xs.length : Int)) ∧ ∃ n, w' = w.drewN n := by
  go_enter Try.func59, Try.ntmps59
  go_wp2
  go_loopw [7, 8] (fun s i wr => ∃ k n : Nat, k ≤ xs.length ∧ i = .int .i64 (k : Int) ∧ s = .int .i64 (agrTo p xs ys k : Int) ∧ wr = w.drewN n) (fun _ i _ => xs.length - (intOf i).toNat)
  case atStart => exact ⟨0, 0, Nat.zero_le _, rfl, rfl, rfl⟩
  case round =>
    obtain ⟨k, n, hk, rfl, rfl, hwr⟩ := hrel
    have hp' : In wr B A c p := by rw [hwr]; exact hp.drewN n
    have hx' : In wr B A1 c1 xs := by rw [hwr]; exact hx.drewN n
    have hy' : In wr B A2 c2 ys := by rw [hwr]; exact hy.drewN n
    have HW := Lib.hid hwr
    clear hwr hp hx hy
    have hag := agrTo_le p xs ys k
    by_cases hkp : k < xs.length
    · obtain ⟨x, b, off, hx1, hxb, rfl, hb, hcell⟩ := hx'.sl.at_ hkp
      obtain ⟨y, b2, off2, hy1, hyb, rfl, hb2, hcell2⟩ := hy'.sl.at_ (k := k) (by omega)
      have hky : k < ys.length := by omega
      have HX := Lib.hid (co_of hx1)
      have HY := Lib.hid (co_of hy1)
      clear hx1 hy1
      by_cases he : ev x p = y
      · have hB : ((ev x p : Int) == (y : Int)) = true := by rw [beq_iff_eq]; omega
        have HA := Lib.hid (show agrTo p xs ys (k + 1) = agrTo p xs ys k + 1 by rw [agrTo, if_pos (by rw [HX.out, HY.out]; exact he)])
        clear he
        go_wp2
        go_quiet ((go_at_call 43; exact Calls.quiet_of_same (reval_same A c p x hxb _ B (hp'.drewN _) hcm)))
        go_wp2
        go_roundw
        case rel => exact ⟨k + 1, n + nq, by omega, by go_num, by rw [HA.out]; rfl, by rw [HW.out, World.drewN_drewN]⟩
        case measure => simp [intOf]; omega
      · have hB : ((ev x p : Int) == (y : Int)) = false := beq_eq_false_iff_ne.2 (by omega)
        have HA := Lib.hid (show agrTo p xs ys (k + 1) = agrTo p xs ys k by rw [agrTo, if_neg (by rw [HX.out, HY.out]; exact he)])
        clear he
        go_wp2
        go_quiet ((go_at_call 43; exact Calls.quiet_of_same (reval_same A c p x hxb _ B (hp'.drewN _) hcm)))
        go_wp2
        go_roundw
        case rel => exact ⟨k + 1, n + nq, by omega, by go_num, by rw [HA.out], by rw [HW.out, World.drewN_drewN]⟩
        case measure => simp [intOf]; omega
    · obtain rfl : k = xs.length := by omega
      go_wp2
      go_ret
      exact ⟨rfl, n, HW.out⟩
end Go.Proofs.Ytgikgnhpplmljaa
end
