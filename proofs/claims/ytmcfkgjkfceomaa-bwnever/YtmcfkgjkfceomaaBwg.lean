/- What bw's Decode does: the polynomial that is agreed on, and the places of the values that are not its own; or that there is none. -/
import Derived.Test.YtmcfkgjkfceomaaBwf
namespace Gw
open Go Go.RowKit Go.Shelf Gq
theorem Own.x2 {X : Nat → TypeId → Prop} {w : World} {A : Option Addr} {c base : Nat} {e : TypeId} {l : List Nat} (h : Own w base e A c l) (hX : ∀ b e, base ≤ b → b < w.heap.size → ¬ X b e) : InX X w A c l := ⟨fun i x hx => by
  obtain ⟨h1, b, off, h2, _, h4⟩ := h.sl i x hx
  obtain ⟨g, hg, hb, _⟩ := h.store (k := i) ((List.getElem?_eq_some_iff.1 hx).1)
  rw [h2] at hg
  injection hg with hg
  injection hg with hg
  exact ⟨h1, b, off, h2, fun e => hX b e (by omega) (cell_lt h4), h4⟩, h.cap, h.inn.none_⟩
/-- The block of a row that is appended to holds cells of the row's type. -/
theorem OwnJ.block {w : World} {base c n : Nat} {e : TypeId} {A : Option Addr} {L : List Nat} (h : OwnJ w base e A c L) {r : Nat} (hr : (Value.slice A n c).ownBlock = some r) : base ≤ r ∧ ∃ cs, w.heap[r]? = some (.cells cs e (0, 0)) := by
  rcases h.2 with ⟨hv, _⟩ | ⟨g, cap, cur, hv, hb, hg, _⟩
  · injection hv with h1 _ h3; subst h1; cases hr
  · injection hv with h1 _ h3
    subst h1
    simp [Value.ownBlock] at hr
    subst hr
    exact ⟨hb, cur, hg⟩
end Gw
namespace Go.Proofs.Ytmcfkgjkfceomaa
open Go.RowKit Go.Shelf Gw Pol Gq Go.BigFrame
attribute [local go_sem] Oper.semAt_some

/-- Four boxes behind others. -/
structure DcF (w : World) (v0 v1 v2 v3 : Value) (W : World) : Prop where
  c0 : W.cell? ⟨w.heap.size, 0, none⟩ = some v0
  c1 : W.cell? ⟨w.heap.size + 1, 0, none⟩ = some v1
  c2 : W.cell? ⟨w.heap.size + 2, 0, none⟩ = some v2
  c3 : W.cell? ⟨w.heap.size + 3, 0, none⟩ = some v3
  sz : W.heap.size = w.heap.size + 4
  bl : Below w.heap.size w W
theorem dcF (w : World) (v0 v1 v2 v3 : Value) (t0 t1 t2 t3 : TypeId) : DcF w v0 v1 v2 v3 ((((w.alloc (.cells #[v0] t0)).alloc (.cells #[v1] t1)).alloc (.cells #[v2] t2)).alloc (.cells #[v3] t3)) := by
  refine ⟨?_, ?_, ?_, ?_, by simp, ?_⟩
  · exact old_cell (old_cell (old_cell (new_cell w v0 t0 _ rfl) _) _) _
  · exact old_cell (old_cell (new_cell _ v1 t1 _ (by simp)) _) _
  · exact old_cell (new_cell _ v2 t2 _ (by simp)) _
  · exact new_cell _ v3 t3 _ (by simp)
  · exact ((((Below.refl _ w).alloc (Nat.le_refl _) _).alloc (by simp) _).alloc (by simp; omega) _).alloc (by simp; omega) _

/-- The box of the places, and rows of ints from s1 on. -/
def DcX (s s1 : Nat) (b : Nat) (e : TypeId) : Prop := b = s ∨ (s1 ≤ b ∧ e = 3)
/-- Between two rounds. -/
def DcI (w : World) (s1 : Nat) (Ap : Option Addr) (cp : Nat) (p : List Nat) (L : Nat) (pre : List (Plc L)) (W : World) : Prop :=
  ((∃ A c, W.cell? ⟨w.heap.size, 0, none⟩ = some (.slice A (oval pre).length c) ∧ OwnJ W s1 3 A c (oval pre) ∧ s1 ≤ W.heap.size) ∧ W.frozen? ⟨w.heap.size, 0, none⟩ = false ∧ Gw.Own W (w.heap.size + 1) 5 Ap cp p) ∧ Below w.heap.size w W
theorem DcI.own (w : World) (s1 : Nat) (Ap : Option Addr) (cp : Nat) (p : List Nat) (L B : Nat) (hB : w.heap.size ≤ B) : OwnFrom B (DcI w s1 Ap cp p L) :=
  OwnFrom.and (Own.from (fun _ _ _ _ hs hg hr => by
    obtain ⟨⟨A, c, h0, h1, h4⟩, h2, h3⟩ := hs
    exact ⟨⟨A, c, cell_kept h0 hg hr, h1.turned hg hr, Nat.le_trans h4 hg.size⟩, (frozen_kept h0 hg hr).trans h2, own_turned h3 hg hr⟩) _) (ownFrom_below (Nat.le_refl _) hB)
/-- A round: a place is appended. -/
theorem DcI.step {w W W3 : World} {s1 : Nat} {Ap A : Option Addr} {cp c : Nat} {p : List Nat} {L i : Nat} (hi : i < L) {pre : List (Plc L)} {v' : Value} (hs : w.heap.size < s1) (hs2 : s1 ≤ W.heap.size) (hc : W.cell? ⟨w.heap.size, 0, none⟩ = some (.slice A (oval pre).length c)) (ho : OwnJ W s1 3 A c (oval pre)) (hf : W.frozen? ⟨w.heap.size, 0, none⟩ = false)
    (hp : Gw.Own W (w.heap.size + 1) 5 Ap cp p) (hB : Below w.heap.size w W) (o : Obj) (hown : W3.ownsRow s1 3 1 v' ((oval pre).length + 1) (intv (oval pre) ++ [.int .i64 (i : Int)])) (hg : (W.alloc o).grownBy W3 (Value.slice A (oval pre).length c).ownBlock) :
    KeepsOthers W (W3.setCell ⟨w.heap.size, 0, none⟩ v') ∧ KeepX (DcX w.heap.size s1) W (W3.setCell ⟨w.heap.size, 0, none⟩ v') ∧ DcI w s1 Ap cp p L (pre ++ [⟨i, hi⟩]) (W3.setCell ⟨w.heap.size, 0, none⟩ v') := by
  have hb1 : Below W.heap.size W (W.alloc o) := (Below.refl _ _).alloc (Nat.le_refl _) _
  have ho1 := ho.alloc o
  have hrow : ∀ r, (Value.slice A (oval pre).length c).ownBlock = some r → s1 ≤ r ∧ ∃ cs, (W.alloc o).heap[r]? = some (.cells cs 3 (0, 0)) := fun r hr => ho1.block hr
  have kx1 : KeepX (DcX w.heap.size s1) (W.alloc o) W3 := KeepX.by hg (fun r hr cs e z h2 => by
    obtain ⟨h3, cs', h4⟩ := hrow r hr
    rw [h2] at h4
    injection h4 with h4
    injection h4 with _ h5
    exact .inr ⟨h3, h5⟩)
  have ko1 : KeepsOthers (W.alloc o) W3 := ⟨hg.size, fun k ob hk hc => (hg.block k (Array.getElem?_eq_some_iff.1 hk).1 (fun e => by
    obtain ⟨_, cs', h4⟩ := hrow k e.symm
    rw [hk] at h4
    injection h4 with h4
    subst h4
    cases hc)).trans hk⟩
  have hne : (Value.slice A (oval pre).length c).ownBlock ≠ some w.heap.size := fun e => by have := (hrow _ e).1; omega
  have hw : w.heap.size < (W.alloc o).heap.size := by rw [World.size_alloc]; omega
  have hblk : W3.heap[w.heap.size]? = W.heap[w.heap.size]? := (hg.block _ hw (fun e => hne e.symm)).trans (hb1.block _ (by omega))
  have hc3 : W3.cell? ⟨w.heap.size, 0, none⟩ = some (.slice A (oval pre).length c) := (World.cell?_of_block (w := W) (a := ⟨w.heap.size, 0, none⟩) hblk).trans hc
  have hf3 : W3.frozen? ⟨w.heap.size, 0, none⟩ = false := (World.frozen?_of_block (w := W) (a := ⟨w.heap.size, 0, none⟩) hblk).trans hf
  have kx : KeepX (DcX w.heap.size s1) W (W3.setCell ⟨w.heap.size, 0, none⟩ v') := ((KeepX.below hb1).trans kx1).trans (KeepX.set (fun e => .inl rfl) _)
  have hbel : Below w.heap.size w W3 := (hB.trans (hb1.mono hB.size)).grown hg (by omega) (fun k hk => by have := (hrow k hk).1; omega)
  obtain ⟨A', c', hv, hO⟩ := OwnJ.mk' (L := oval pre ++ [i]) (by rw [intv_app]; exact hown)
  refine ⟨((keeps_below hb1).trans ko1).trans (KeepsOthers.setCell _ _ _), kx, ⟨⟨A', c', ?_, ?_, Nat.le_trans hs2 kx.size⟩, ?_, ?_⟩, hbel.setCell (p := ⟨w.heap.size, 0, none⟩) (Nat.le_refl _) _⟩
  · rw [oval_snoc, ← hv]
    exact World.cell?_setCell_same W3 ⟨w.heap.size, 0, none⟩ _ hc3
  · rw [oval_snoc]
    refine hO.grown (row := some w.heap.size) (Lib.grownBy_setB (World.grownBy.refl _ _) 0 v') (fun b cs hb _ e => ?_)
    injection e with e
    omega
  · rw [World.frozen?_setCell]; exact hf3
  · exact kx.own hp (fun b hb h => by
      rcases h with h | ⟨_, h⟩
      · omega
      · exact absurd h (by decide))

theorem dc_mid {w W W3 : World} {s1 : Nat} {A : Option Addr} {c : Nat} {L : List Nat} (hs : w.heap.size < s1) (hs2 : s1 ≤ W.heap.size) (hc : W.cell? ⟨w.heap.size, 0, none⟩ = some (.slice A L.length c)) (ho : OwnJ W s1 3 A c L) (hf : W.frozen? ⟨w.heap.size, 0, none⟩ = false)
    (o : Obj) (hg : (W.alloc o).grownBy W3 (Value.slice A L.length c).ownBlock) : W3.cell? ⟨w.heap.size, 0, none⟩ = some (.slice A L.length c) ∧ W3.frozen? ⟨w.heap.size, 0, none⟩ = false := by
  have hb1 : Below W.heap.size W (W.alloc o) := (Below.refl _ _).alloc (Nat.le_refl _) _
  have hne : (Value.slice A L.length c).ownBlock ≠ some w.heap.size := fun e => by have := (ho.block e).1; omega
  have hblk : W3.heap[w.heap.size]? = W.heap[w.heap.size]? := (hg.block _ (by rw [World.size_alloc]; omega) (fun e => hne e.symm)).trans (hb1.block _ (by omega))
  exact ⟨(World.cell?_of_block (w := W) (a := ⟨w.heap.size, 0, none⟩) hblk).trans hc, (World.frozen?_of_block (w := W) (a := ⟨w.heap.size, 0, none⟩) hblk).trans hf⟩

/-- When the range is through, and the box has been stored to. -/
theorem dc_end {w W W4 : World} {s1 Dd : Nat} {Ap A : Option Addr} {cp c : Nat} {p L : List Nat} {v : Value} (hs : w.heap.size < s1) (hDd : s1 ≤ Dd) (hg : W.grownBy W4 (some w.heap.size)) (hc : W4.cell? ⟨w.heap.size, 0, none⟩ = some v) (hK : W.heap[Dd]? = some (.deferred (some []))) (ho : OwnJ W s1 3 A c L)
    (hp : Gw.Own W (w.heap.size + 1) 5 Ap cp p) (hB : Below w.heap.size w W) : W4.heap[Dd]? = some (.deferred (some [])) ∧ (load ⟨w.heap.size, 0, none⟩).run Try.prog (W4.putObj Dd (.deferred none)) = .ok v (W4.putObj Dd (.deferred none)) ∧
      Gw.Own (W4.putObj Dd (.deferred none)) w.heap.size 5 Ap cp p ∧ OwnJ (W4.putObj Dd (.deferred none)) w.heap.size 3 A c L ∧ Below w.heap.size w (W4.putObj Dd (.deferred none)) := by
  have hK4 : W4.heap[Dd]? = some (.deferred (some [])) := (hg.block Dd (Array.getElem?_eq_some_iff.1 hK).1 (fun e => by injection e with e; omega)).trans hK
  have hgp : W4.grownBy (W4.putObj Dd (.deferred none)) (some Dd) := grownBy_putObj' W4 Dd (.deferred none)
  have hno : ∀ r, some Dd = some r → ∃ o : Obj, W4.heap[r]? = some o ∧ o.isCells = false := fun r e => by injection e with e; subst e; exact ⟨_, hK4, rfl⟩
  have z : (W4.putObj Dd (.deferred none)).cell? ⟨w.heap.size, 0, none⟩ = some v := (World.cell?_of_block (w := W4) (a := ⟨w.heap.size, 0, none⟩) (World.putObj_heap_other (by show w.heap.size ≠ Dd; omega))).trans hc
  refine ⟨hK4, by simp [z], ?_, ?_, ?_⟩
  · refine own_turned ((hp.grown hg (fun o e => ?_)).base (by omega)) hgp hno
    subst e
    have := hp.lt
    omega
  · exact ((ho.grown hg (fun b cs hb _ e => by injection e with e; omega)).turned hgp hno).rebase (by omega)
  · refine (hB.grown hg hB.size (fun k e => by injection e with e; omega)).grown hgp (Nat.le_trans hB.size hg.size) (fun k e => by injection e with e; omega)

/-- What is known at the end. -/
theorem dc_no {xs ys q r r0 v0 r1 v1 : List Nat} {D E : Nat} (hx : BB xs) (hEu : Eu xs ys r0 v0 r1 v1) (hhigh : xs.length + D + 3 ≤ 2 * r0.length) (hlow : 2 * r1.length < xs.length + D + 3) (hd : DivOf r1 v1 q r)
    (h : ¬ (r = [] ∧ q.length ≤ D + 1) ∨ (wrTo q xs ys xs.length).length > E ∨ xs.length < (wrTo q xs ys xs.length).length + (D + 1 + E)) (p : List Nat) : ¬ Agd xs ys (D : Int) (E : Int) p := fun hp => by
  obtain ⟨e1, e2⟩ := hEu.finds hx hp (by omega) (by omega) hd
  subst e1
  have := hp.deg; have := hp.most; have := hp.own
  rcases h with h | h | h
  · exact h ⟨e2, by omega⟩
  · omega
  · omega

set_option maxRecDepth 100000 in
set_option maxHeartbeats 4000000 in
theorem bdec_in (bf : Nat) (A A' : Option Addr) (c c' : Nat) (xs ys : List Nat) (D E t : Nat) (w : World) (hF : IsField w bf) (hI : In w w.heap.size A c xs) (hI' : In w w.heap.size A' c' ys) (he : xs.length = ys.length) (hl : xs.length ≤ 255) (hu : unB xs = true) (hD : D ≤ 255) (hE : E ≤ 255) (ht : xs.length = D + 1 + E + t) :
    CallsIn Fence.wide 6 Try.prog 9 #[.pointer (some ⟨bf, 0, none⟩), .slice A xs.length c, .slice A' ys.length c', .int .i64 (D : Int), .int .i64 (E : Int)] w (DcAns w xs ys (D : Int) (E : Int)) := by
  have hlf := hF.lt
  have hz := zeroInts
  obtain ⟨i0, hi0, hz0, hz1, hz2⟩ := info_parts pint_info
  have hB := dcB w
  have T1 := Lib.hid (repeated_any A c xs _ ((hI.below hB.bl).more hB.bl.size) (by omega))
  rw [hu] at T1
  have T2 := Lib.hid (within_any (D : Int))
  have T3 := Lib.hid (within_any (E : Int))
  have hwd : witB (D : Int) = true := decide_eq_true (by omega)
  have hwe : witB (E : Int) = true := decide_eq_true (by omega)
  rw [hwd] at T2
  rw [hwe] at T3
  have HB := Lib.hid hB
  have HE := Lib.hid he
  have HU := Lib.hid hu
  have HX := Lib.hid hI.bb
  rw [← he]
  clear hB he hu hwd hwe
  have after : ∀ w1, Below (w.alloc (.cells #[.slice none 0 0] 24)).heap.size (w.alloc (.cells #[.slice none 0 0] 24)) w1 → w1.cell? ⟨w.heap.size, 0, none⟩ = some (.slice none 0 0) ∧ w1.frozen? ⟨w.heap.size, 0, none⟩ = false ∧ Below w.heap.size w w1 ∧ w.heap.size + 1 ≤ w1.heap.size := fun w1 hb => by
    have hs := HB.out.sz
    refine ⟨(hb.cell (p := ⟨w.heap.size, 0, none⟩) (by show w.heap.size < _; omega)).trans HB.out.c, (World.frozen?_of_block (hb.block w.heap.size (by omega))).trans HB.out.f, HB.out.bl.trans (hb.mono (by omega)), by have := hb.size; omega⟩
  have HA := Lib.hid after
  clear after
  have hsub : (xs.length : Int) - ((D : Int) + 1 + (E : Int)) = (t : Int) := by omega
  have hdn : D < xs.length := by omega
  have hdl : ¬ ((255 : Int) < (xs.length : Int)) := by omega
  have HT := Lib.hid ht
  clear ht
  by_cases hlt : t < E
  · have hlt2 : (t : Int) < (E : Int) := by omega
    refine callsIn_of_wp_marks Try.func9 rfl trivial ?_ rfl
    simp only [Try.ntmps9, List.size_toArray, List.length_cons, List.length_nil, Nat.reduceAdd, Nat.reduceSub, Array.replicate_succ, Array.replicate_zero, List.push_toArray, List.append_toArray, List.nil_append, List.cons_append]
    gi_wp2_with fail
    refine ⟨trivial, ?_⟩
    refine (callsIn_wide.2 T1.out).mono ?_
    rintro en w1 ⟨rfl, hb1⟩
    obtain ⟨hc, hf, hb, hs1⟩ := HA.out w1 hb1
    clear hb1
    gi_wp2_with fail
    refine ⟨trivial, ?_⟩
    refine (callsIn_wide.2 (T2.out w1)).mono ?_
    rintro en w2 ⟨rfl, rfl⟩
    gi_wp2_with fail
    refine ⟨trivial, ?_⟩
    refine (callsIn_wide.2 (T3.out w1)).mono ?_
    rintro en w2 ⟨rfl, rfl⟩
    have T4 := Lib.hid (nearest_any bf A A' c c' D xs ys w1 (hF.below hb hlf) ((hI.below hb).more hb.size) ((hI'.below hb).more hb.size) HE.out hl HU.out hD hdn)
    rw [← HE.out] at T4
    gi_wp2_with fail
    refine ⟨trivial, ?_⟩
    refine (callsIn_wide.2 T4.out).mono ?_
    rintro en w2 ⟨r0, v0, r1, v1, q, r, hEu, hhigh, hlow, hdiv, hans, hb2⟩
    have hbw2 : Below w.heap.size w w2 := hb.trans (hb2.mono hb.size)
    have hc2 := (hb2.cell (p := ⟨w.heap.size, 0, none⟩) (by show w.heap.size < _; omega)).trans hc
    have hf2 : w2.frozen? ⟨w.heap.size, 0, none⟩ = false := (World.frozen?_of_block (hb2.block w.heap.size (by omega))).trans hf
    have HNO := Lib.hid (dc_no (E := E) HX.out hEu hhigh hlow hdiv)
    have hqb := hdiv.bq
    have hqt := hdiv.tq
    clear T4 hEu hhigh hlow hdiv
    rcases hans with ⟨Ap, cp, rfl, hr0, hqd, hoq⟩ | ⟨rfl, hno⟩
    · have hoq2 := hoq.base (base' := w.heap.size + 1) hs1
      have hs2 := hb2.size
      clear hr0
      gi_wp2_with fail
      refine ⟨trivial, ?_⟩
      refine (callsIn_wide.2 (others_mk bf Ap A A' q.length cp xs.length c xs.length c' w2)).mono ?_
      rintro en w3 ⟨rfl, hw3⟩
      have h4 := dcF w2 (.pointer (some ⟨bf, 0, none⟩)) (.slice Ap q.length cp) (.slice A xs.length c) (.slice A' xs.length c') 27 22 22 22
      rw [← hw3] at h4
      clear hw3
      have hb4 : Below w.heap.size w w3 := hbw2.trans (h4.bl.mono hbw2.size)
      have hc3 := (h4.bl.cell (p := ⟨w.heap.size, 0, none⟩) (by show w.heap.size < _; omega)).trans hc2
      have hf3 : w3.frozen? ⟨w.heap.size, 0, none⟩ = false := (World.frozen?_of_block (h4.bl.block w.heap.size (by omega))).trans hf2
      have hF4 := hF.below hb4 hlf
      have hsz3 := h4.sz
      have hnX : ∀ b, b ≠ w.heap.size → b < w3.heap.size → ∀ e, ¬ DcX w.heap.size w3.heap.size b e := fun b h1 h2 e h => by
        rcases h with h | h
        · exact h1 h
        · omega
      have j1 := (hoq2.kept h4.bl).x2 (X := DcX w.heap.size w3.heap.size) (fun b e h1 h2 => hnX b (by omega) h2 e)
      have j2 := (hI.below hb4).x (X := DcX w.heap.size w3.heap.size) (fun b e h => hnX b (by omega) (by omega) e)
      have j3 := (hI'.below hb4).x (X := DcX w.heap.size w3.heap.size) (fun b e h => hnX b (by omega) (by omega) e)
      have k4 := h4.c3
      rw [HE.out] at k4
      gi_wp2
      refine Gq.range_memX (by omega) (gf := 32) (lb := #[.pointer (some ⟨w2.heap.size, 0, none⟩), .pointer (some ⟨w2.heap.size + 1, 0, none⟩), .pointer (some ⟨w2.heap.size + 2, 0, none⟩), .pointer (some ⟨w2.heap.size + 3, 0, none⟩)]) rfl (enters_of Try.func32 (by kernel_rfl) rfl)
        (others_stops (6 - 1) (by omega) (DcX w.heap.size w3.heap.size) w2.heap.size (w2.heap.size + 1) (w2.heap.size + 2) (w2.heap.size + 3) bf Ap A A' cp c c' q xs ys w3 hl (by omega) HE.out h4.c0 h4.c1 h4.c2 k4 hF4 j1 j2 j3 (hnX _ (by omega) (by omega)) (hnX _ (by omega) (by omega)) (hnX _ (by omega) (by omega)) (hnX _ (by omega) (by omega)) (hnX _ (by omega) (by omega))
          (fun b h h' => by
            rcases h' with h' | ⟨_, h'⟩
            · omega
            · exact absurd h' (by decide)))
        (fun h k => KeepX.trans h k) (fun W l o o' _ h hc => KeepX.put h hc) (fun _ => rfl) (fun _ _ _ _ _ _ _ => trivial)
        (DcI w w3.heap.size Ap cp q xs.length) (fun _ _ _ => False) (DcI.own w w3.heap.size Ap cp q xs.length _ hb4.size) (fun _ _ _ _ _ h _ _ => h)
        ⟨⟨⟨none, 0, hc3, OwnJ.nil _ _ _, Nat.le_refl _⟩, hf3, hoq2.kept h4.bl⟩, hb4⟩
        (fun x => { tmps := #[.pointer (some ⟨bf, 0, none⟩), .slice A xs.length c, .slice A' xs.length c', .int .i64 (D : Int), .int .i64 (E : Int), undef, undef, undef, undef, undef, .slice Ap q.length cp, .pointer (some ⟨w.heap.size, 0, none⟩), .bool true, .int .i64 (t : Int), .int .i64 (x.1 : Int), .slice A xs.length c, .int .i64 (xs.length : Int), .slice A' xs.length c', .int .i64 (xs.length : Int), .bool false, .bool false, .slice A xs.length c, .int .i64 (xs.length : Int), .bool false, .bool false, .bool false, .slice A xs.length c, .bool false, .bool false, .bool false, .int .i64 (D : Int), .bool true, .bool false, .bool false, .bool false, .int .i64 (E : Int), .bool true, .bool false, .bool false, .int .i64 (E : Int), .slice A xs.length c, .int .i64 (xs.length : Int), .int .i64 (D : Int), .int .i64 ((D : Int) + 1), .int .i64 (E : Int), .int .i64 ((D : Int) + 1 + (E : Int)), .int .i64 (t : Int), .int .i64 (t : Int), .int .i64 (t : Int), .bool false, .tuple #[.slice Ap q.length cp, .bool true], .pointer (some ⟨bf, 0, none⟩), .slice A xs.length c, .slice A' xs.length c', .int .i64 (D : Int), .tuple #[.slice Ap q.length cp, .bool true], .slice Ap q.length cp, .bool true, .bool true, .bool false, .pointer (some ⟨bf, 0, none⟩), .slice Ap q.length cp, .slice A xs.length c, .slice A' xs.length c', .func (.func 32) #[] #[.pointer (some ⟨w2.heap.size, 0, none⟩), .pointer (some ⟨w2.heap.size + 1, 0, none⟩), .pointer (some ⟨w2.heap.size + 2, 0, none⟩), .pointer (some ⟨w2.heap.size + 3, 0, none⟩)], .int .i64 (x.1 : Int), undef, undef, undef, undef, undef, undef, undef, undef, undef, undef], defers := [] }) ?assign ?body ?done ?stop
      case assign =>
        intro l x W K hK
        gi_wp2
        exact hK
      case body =>
        rintro lb pre ⟨i, hi⟩ W ⟨⟨⟨Aw, cw, d0, hoj, hW⟩, f0, hop⟩, hBW⟩ _ hlk
        have hol : (oval pre).length ≤ i := by
          have := wrTo_agr q xs ys i
          have h2 : oval pre = wrTo q xs ys i := hlk
          rw [h2]; omega
        clear h4 hb4 hF4 j1 j2 j3 k4 hc3 hf3 hc2 hf2
        have HST := Lib.hid (fun (v' : Value) (W3 : World) (hown : W3.ownsRow w3.heap.size 3 1 v' ((oval pre).length + 1) (intv (oval pre) ++ [.int .i64 (i : Int)])) (hg : (W.alloc (.cells #[.int .i64 (i : Int)] 3)).grownBy W3 (Value.slice Aw (oval pre).length cw).ownBlock) => DcI.step hi (by omega) hW d0 hoj f0 hop hBW _ hown hg)
        have HMI := Lib.hid (fun (W3 : World) (hg : (W.alloc (.cells #[.int .i64 (i : Int)] 3)).grownBy W3 (Value.slice Aw (oval pre).length cw).ownBlock) => dc_mid (by omega) hW d0 hoj f0 _ hg)
        have HOJ := Lib.hid hoj
        clear hoj hop hBW hlk
        gi_wp2_with (gi_at_builtin; refine wpListIn_append_own _ rfl (.tmp 66) (.tmp 68) 24 rfl w3.heap.size 3 i0 (.int .i64 0) 1 8 Try.underlying24 hi0 hz0 hz1 hz2 rfl (by decide) (.slice Aw (oval pre).length cw) (oval pre).length (intv (oval pre)) rfl (HOJ.out.alloc _) ⟨W.heap.size, 0, none⟩ 1 1 [.int .i64 (i : Int)] rfl rfl (fun j u hj => by
            match j, hj with
            | 0, hj => simp at hj; subst hj; exact cell_new W _ _) (fun u hu => by simp at hu; subst hu; rfl) (by simp only [maxLen]; omega) (by omega) (by rw [World.size_alloc]; omega) ?_; intro v' W3 hown3 hgr3 _; obtain ⟨A9, c9, rfl, hO9⟩ := OwnJ.mk' (L := oval pre ++ [i]) (by rw [intv_app]; exact hown3); have hm3 := (HMI.out W3 hgr3).1; have hm4 := (HMI.out W3 hgr3).2)
        exact HST.out _ W3 (by have h9 := hown3; rw [List.length_append, List.length_singleton] at h9; exact h9) hgr3
      case done =>
        rintro Dd pre W hDd hS ⟨⟨⟨Aw, cw, d0, hoj, hW⟩, f0, hop⟩, hBW⟩ hK
        clear h4 hb4 hF4 j1 j2 j3 k4 hc3 hf3 hc2 hf2
        rw [hS] at d0 hoj
        have hag := wrTo_agr q xs ys xs.length
        have hwl : (wrTo q xs ys xs.length).length ≤ 255 := by omega
        have HAG := Lib.hid (fun (h1 : (wrTo q xs ys xs.length).length ≤ E) (h2 : (wrTo q xs ys xs.length).length + (D + 1 + E) ≤ xs.length) => (⟨hqb, hqt, HE.out, hl, of_decide_eq_true HU.out, by omega, by omega, by omega, by omega, by omega, by omega, by omega⟩ : Agd xs ys (D : Int) (E : Int) q))
        clear hag
        by_cases hmo : (wrTo q xs ys xs.length).length ≤ t
        · have hmo2 : ¬ ((t : Int) < ((wrTo q xs ys xs.length).length : Int)) := by omega
          gi_wp2
          gi_region
          have hg4 : W.grownBy (W.setCell ⟨w.heap.size, 0, none⟩ (.slice Aw (wrTo q xs ys xs.length).length cw)).drew (some w.heap.size) := grown_drew (Lib.grownBy_setB (World.grownBy.refl _ _) 0 _)
          obtain ⟨hK4, hld, ho4, hj4, hb5⟩ := dc_end (v := .slice Aw (wrTo q xs ys xs.length).length cw) (by omega) hDd hg4 (World.cell?_setCell_same W ⟨w.heap.size, 0, none⟩ _ d0) hK hoj hop hBW
          clear hg4
          gi_wp2
          refine ⟨by simp, .inl ⟨_, _, rfl, run_takeDeferred hK4, ?_⟩⟩
          exact ⟨_, results_tct rfl aggInts _ _ rfl hld, .inl ⟨q, Ap, Aw, cp, cw, rfl, HAG.out (by omega) (by have := HT.out; omega), ho4, hj4, hb5⟩⟩
        · have hmo2 : (t : Int) < ((wrTo q xs ys xs.length).length : Int) := by omega
          gi_wp2
          have hg4 : W.grownBy (W.setCell ⟨w.heap.size, 0, none⟩ (.slice none 0 0)) (some w.heap.size) := Lib.grownBy_setB (World.grownBy.refl _ _) 0 _
          obtain ⟨hK4, hld, ho4, hj4, hb5⟩ := dc_end (v := .slice none 0 0) (by omega) hDd hg4 (World.cell?_setCell_same W ⟨w.heap.size, 0, none⟩ _ d0) hK hoj hop hBW
          refine ⟨by simp, .inl ⟨_, _, rfl, run_takeDeferred hK4, ?_⟩⟩
          exact ⟨_, results_tct rfl aggInts _ _ rfl hld, .inr ⟨⟨rfl, hb5⟩, HNO.out (.inr (by have := HT.out; omega))⟩⟩
      case stop =>
        rintro Dd k pre W _ h _
        exact h.elim
    · have hS := Lib.hid (dc_set hc2 hbw2)
      gi_wp2
      exact ⟨_, results_tct rfl aggInts _ _ rfl hS.out.1, .inr ⟨⟨rfl, hS.out.2⟩, HNO.out (.inl hno)⟩⟩
  · have hlt2 : ¬ ((t : Int) < (E : Int)) := by omega
    refine callsIn_of_wp_marks Try.func9 rfl trivial ?_ rfl
    simp only [Try.ntmps9, List.size_toArray, List.length_cons, List.length_nil, Nat.reduceAdd, Nat.reduceSub, Array.replicate_succ, Array.replicate_zero, List.push_toArray, List.append_toArray, List.nil_append, List.cons_append]
    gi_wp2_with fail
    refine ⟨trivial, ?_⟩
    refine (callsIn_wide.2 T1.out).mono ?_
    rintro en w1 ⟨rfl, hb1⟩
    obtain ⟨hc, hf, hb, hs1⟩ := HA.out w1 hb1
    clear hb1
    gi_wp2_with fail
    refine ⟨trivial, ?_⟩
    refine (callsIn_wide.2 (T2.out w1)).mono ?_
    rintro en w2 ⟨rfl, rfl⟩
    gi_wp2_with fail
    refine ⟨trivial, ?_⟩
    refine (callsIn_wide.2 (T3.out w1)).mono ?_
    rintro en w2 ⟨rfl, rfl⟩
    have T4 := Lib.hid (nearest_any bf A A' c c' D xs ys w1 (hF.below hb hlf) ((hI.below hb).more hb.size) ((hI'.below hb).more hb.size) HE.out hl HU.out hD hdn)
    rw [← HE.out] at T4
    gi_wp2_with fail
    refine ⟨trivial, ?_⟩
    refine (callsIn_wide.2 T4.out).mono ?_
    rintro en w2 ⟨r0, v0, r1, v1, q, r, hEu, hhigh, hlow, hdiv, hans, hb2⟩
    have hbw2 : Below w.heap.size w w2 := hb.trans (hb2.mono hb.size)
    have hc2 := (hb2.cell (p := ⟨w.heap.size, 0, none⟩) (by show w.heap.size < _; omega)).trans hc
    have hf2 : w2.frozen? ⟨w.heap.size, 0, none⟩ = false := (World.frozen?_of_block (hb2.block w.heap.size (by omega))).trans hf
    have HNO := Lib.hid (dc_no (E := E) HX.out hEu hhigh hlow hdiv)
    have hqb := hdiv.bq
    have hqt := hdiv.tq
    clear T4 hEu hhigh hlow hdiv
    rcases hans with ⟨Ap, cp, rfl, hr0, hqd, hoq⟩ | ⟨rfl, hno⟩
    · have hoq2 := hoq.base (base' := w.heap.size + 1) hs1
      have hs2 := hb2.size
      clear hr0
      gi_wp2_with fail
      refine ⟨trivial, ?_⟩
      refine (callsIn_wide.2 (others_mk bf Ap A A' q.length cp xs.length c xs.length c' w2)).mono ?_
      rintro en w3 ⟨rfl, hw3⟩
      have h4 := dcF w2 (.pointer (some ⟨bf, 0, none⟩)) (.slice Ap q.length cp) (.slice A xs.length c) (.slice A' xs.length c') 27 22 22 22
      rw [← hw3] at h4
      clear hw3
      have hb4 : Below w.heap.size w w3 := hbw2.trans (h4.bl.mono hbw2.size)
      have hc3 := (h4.bl.cell (p := ⟨w.heap.size, 0, none⟩) (by show w.heap.size < _; omega)).trans hc2
      have hf3 : w3.frozen? ⟨w.heap.size, 0, none⟩ = false := (World.frozen?_of_block (h4.bl.block w.heap.size (by omega))).trans hf2
      have hF4 := hF.below hb4 hlf
      have hsz3 := h4.sz
      have hnX : ∀ b, b ≠ w.heap.size → b < w3.heap.size → ∀ e, ¬ DcX w.heap.size w3.heap.size b e := fun b h1 h2 e h => by
        rcases h with h | h
        · exact h1 h
        · omega
      have j1 := (hoq2.kept h4.bl).x2 (X := DcX w.heap.size w3.heap.size) (fun b e h1 h2 => hnX b (by omega) h2 e)
      have j2 := (hI.below hb4).x (X := DcX w.heap.size w3.heap.size) (fun b e h => hnX b (by omega) (by omega) e)
      have j3 := (hI'.below hb4).x (X := DcX w.heap.size w3.heap.size) (fun b e h => hnX b (by omega) (by omega) e)
      have k4 := h4.c3
      rw [HE.out] at k4
      gi_wp2
      refine Gq.range_memX (by omega) (gf := 32) (lb := #[.pointer (some ⟨w2.heap.size, 0, none⟩), .pointer (some ⟨w2.heap.size + 1, 0, none⟩), .pointer (some ⟨w2.heap.size + 2, 0, none⟩), .pointer (some ⟨w2.heap.size + 3, 0, none⟩)]) rfl (enters_of Try.func32 (by kernel_rfl) rfl)
        (others_stops (6 - 1) (by omega) (DcX w.heap.size w3.heap.size) w2.heap.size (w2.heap.size + 1) (w2.heap.size + 2) (w2.heap.size + 3) bf Ap A A' cp c c' q xs ys w3 hl (by omega) HE.out h4.c0 h4.c1 h4.c2 k4 hF4 j1 j2 j3 (hnX _ (by omega) (by omega)) (hnX _ (by omega) (by omega)) (hnX _ (by omega) (by omega)) (hnX _ (by omega) (by omega)) (hnX _ (by omega) (by omega))
          (fun b h h' => by
            rcases h' with h' | ⟨_, h'⟩
            · omega
            · exact absurd h' (by decide)))
        (fun h k => KeepX.trans h k) (fun W l o o' _ h hc => KeepX.put h hc) (fun _ => rfl) (fun _ _ _ _ _ _ _ => trivial)
        (DcI w w3.heap.size Ap cp q xs.length) (fun _ _ _ => False) (DcI.own w w3.heap.size Ap cp q xs.length _ hb4.size) (fun _ _ _ _ _ h _ _ => h)
        ⟨⟨⟨none, 0, hc3, OwnJ.nil _ _ _, Nat.le_refl _⟩, hf3, hoq2.kept h4.bl⟩, hb4⟩
        (fun x => { tmps := #[.pointer (some ⟨bf, 0, none⟩), .slice A xs.length c, .slice A' xs.length c', .int .i64 (D : Int), .int .i64 (E : Int), undef, undef, undef, undef, undef, .slice Ap q.length cp, .pointer (some ⟨w.heap.size, 0, none⟩), .bool true, .int .i64 (E : Int), .int .i64 (x.1 : Int), .slice A xs.length c, .int .i64 (xs.length : Int), .slice A' xs.length c', .int .i64 (xs.length : Int), .bool false, .bool false, .slice A xs.length c, .int .i64 (xs.length : Int), .bool false, .bool false, .bool false, .slice A xs.length c, .bool false, .bool false, .bool false, .int .i64 (D : Int), .bool true, .bool false, .bool false, .bool false, .int .i64 (E : Int), .bool true, .bool false, .bool false, .int .i64 (E : Int), .slice A xs.length c, .int .i64 (xs.length : Int), .int .i64 (D : Int), .int .i64 ((D : Int) + 1), .int .i64 (E : Int), .int .i64 ((D : Int) + 1 + (E : Int)), .int .i64 (t : Int), .int .i64 (E : Int), .int .i64 (E : Int), .bool false, .tuple #[.slice Ap q.length cp, .bool true], .pointer (some ⟨bf, 0, none⟩), .slice A xs.length c, .slice A' xs.length c', .int .i64 (D : Int), .tuple #[.slice Ap q.length cp, .bool true], .slice Ap q.length cp, .bool true, .bool true, .bool false, .pointer (some ⟨bf, 0, none⟩), .slice Ap q.length cp, .slice A xs.length c, .slice A' xs.length c', .func (.func 32) #[] #[.pointer (some ⟨w2.heap.size, 0, none⟩), .pointer (some ⟨w2.heap.size + 1, 0, none⟩), .pointer (some ⟨w2.heap.size + 2, 0, none⟩), .pointer (some ⟨w2.heap.size + 3, 0, none⟩)], .int .i64 (x.1 : Int), undef, undef, undef, undef, undef, undef, undef, undef, undef, undef], defers := [] }) ?assign ?body ?done ?stop
      case assign =>
        intro l x W K hK
        gi_wp2
        exact hK
      case body =>
        rintro lb pre ⟨i, hi⟩ W ⟨⟨⟨Aw, cw, d0, hoj, hW⟩, f0, hop⟩, hBW⟩ _ hlk
        have hol : (oval pre).length ≤ i := by
          have := wrTo_agr q xs ys i
          have h2 : oval pre = wrTo q xs ys i := hlk
          rw [h2]; omega
        clear h4 hb4 hF4 j1 j2 j3 k4 hc3 hf3 hc2 hf2
        have HST := Lib.hid (fun (v' : Value) (W3 : World) (hown : W3.ownsRow w3.heap.size 3 1 v' ((oval pre).length + 1) (intv (oval pre) ++ [.int .i64 (i : Int)])) (hg : (W.alloc (.cells #[.int .i64 (i : Int)] 3)).grownBy W3 (Value.slice Aw (oval pre).length cw).ownBlock) => DcI.step hi (by omega) hW d0 hoj f0 hop hBW _ hown hg)
        have HMI := Lib.hid (fun (W3 : World) (hg : (W.alloc (.cells #[.int .i64 (i : Int)] 3)).grownBy W3 (Value.slice Aw (oval pre).length cw).ownBlock) => dc_mid (by omega) hW d0 hoj f0 _ hg)
        have HOJ := Lib.hid hoj
        clear hoj hop hBW hlk
        gi_wp2_with (gi_at_builtin; refine wpListIn_append_own _ rfl (.tmp 66) (.tmp 68) 24 rfl w3.heap.size 3 i0 (.int .i64 0) 1 8 Try.underlying24 hi0 hz0 hz1 hz2 rfl (by decide) (.slice Aw (oval pre).length cw) (oval pre).length (intv (oval pre)) rfl (HOJ.out.alloc _) ⟨W.heap.size, 0, none⟩ 1 1 [.int .i64 (i : Int)] rfl rfl (fun j u hj => by
            match j, hj with
            | 0, hj => simp at hj; subst hj; exact cell_new W _ _) (fun u hu => by simp at hu; subst hu; rfl) (by simp only [maxLen]; omega) (by omega) (by rw [World.size_alloc]; omega) ?_; intro v' W3 hown3 hgr3 _; obtain ⟨A9, c9, rfl, hO9⟩ := OwnJ.mk' (L := oval pre ++ [i]) (by rw [intv_app]; exact hown3); have hm3 := (HMI.out W3 hgr3).1; have hm4 := (HMI.out W3 hgr3).2)
        exact HST.out _ W3 (by have h9 := hown3; rw [List.length_append, List.length_singleton] at h9; exact h9) hgr3
      case done =>
        rintro Dd pre W hDd hS ⟨⟨⟨Aw, cw, d0, hoj, hW⟩, f0, hop⟩, hBW⟩ hK
        clear h4 hb4 hF4 j1 j2 j3 k4 hc3 hf3 hc2 hf2
        rw [hS] at d0 hoj
        have hag := wrTo_agr q xs ys xs.length
        have hwl : (wrTo q xs ys xs.length).length ≤ 255 := by omega
        have HAG := Lib.hid (fun (h1 : (wrTo q xs ys xs.length).length ≤ E) (h2 : (wrTo q xs ys xs.length).length + (D + 1 + E) ≤ xs.length) => (⟨hqb, hqt, HE.out, hl, of_decide_eq_true HU.out, by omega, by omega, by omega, by omega, by omega, by omega, by omega⟩ : Agd xs ys (D : Int) (E : Int) q))
        clear hag
        by_cases hmo : (wrTo q xs ys xs.length).length ≤ E
        · have hmo2 : ¬ ((E : Int) < ((wrTo q xs ys xs.length).length : Int)) := by omega
          gi_wp2
          gi_region
          have hg4 : W.grownBy (W.setCell ⟨w.heap.size, 0, none⟩ (.slice Aw (wrTo q xs ys xs.length).length cw)).drew (some w.heap.size) := grown_drew (Lib.grownBy_setB (World.grownBy.refl _ _) 0 _)
          obtain ⟨hK4, hld, ho4, hj4, hb5⟩ := dc_end (v := .slice Aw (wrTo q xs ys xs.length).length cw) (by omega) hDd hg4 (World.cell?_setCell_same W ⟨w.heap.size, 0, none⟩ _ d0) hK hoj hop hBW
          clear hg4
          gi_wp2
          refine ⟨by simp, .inl ⟨_, _, rfl, run_takeDeferred hK4, ?_⟩⟩
          exact ⟨_, results_tct rfl aggInts _ _ rfl hld, .inl ⟨q, Ap, Aw, cp, cw, rfl, HAG.out (by omega) (by have := HT.out; omega), ho4, hj4, hb5⟩⟩
        · have hmo2 : (E : Int) < ((wrTo q xs ys xs.length).length : Int) := by omega
          gi_wp2
          have hg4 : W.grownBy (W.setCell ⟨w.heap.size, 0, none⟩ (.slice none 0 0)) (some w.heap.size) := Lib.grownBy_setB (World.grownBy.refl _ _) 0 _
          obtain ⟨hK4, hld, ho4, hj4, hb5⟩ := dc_end (v := .slice none 0 0) (by omega) hDd hg4 (World.cell?_setCell_same W ⟨w.heap.size, 0, none⟩ _ d0) hK hoj hop hBW
          refine ⟨by simp, .inl ⟨_, _, rfl, run_takeDeferred hK4, ?_⟩⟩
          exact ⟨_, results_tct rfl aggInts _ _ rfl hld, .inr ⟨⟨rfl, hb5⟩, HNO.out (.inr (by have := HT.out; omega))⟩⟩
      case stop =>
        rintro Dd k pre W _ h _
        exact h.elim
    · have hS := Lib.hid (dc_set hc2 hbw2)
      gi_wp2
      exact ⟨_, results_tct rfl aggInts _ _ rfl hS.out.1, .inr ⟨⟨rfl, hS.out.2⟩, HNO.out (.inl hno)⟩⟩

/-- What Decode does. -/
theorem bdecode_any (bf : Nat) (A A' : Option Addr) (c c' : Nat) (xs ys : List Nat) (d e : Int) (w : World) (hF : IsField w bf) (hI : In w w.heap.size A c xs) (hI' : In w w.heap.size A' c' ys) :
    Calls Try.prog 9 #[.pointer (some ⟨bf, 0, none⟩), .slice A xs.length c, .slice A' ys.length c', .int .i64 d, .int .i64 e] w (DcAns w xs ys d e) := by
  by_cases he : xs.length = ys.length
  · by_cases hl : xs.length ≤ 255
    · by_cases hbad : unB xs = false ∨ witB d = false ∨ witB e = false
      · refine (bdec_bad bf A A' c c' xs ys d e w hI he hl hbad).mono fun en w' h => .inr ⟨h, fun p hp => ?_⟩
        rcases hbad with h | h | h
        · exact absurd hp.un (of_decide_eq_false h)
        · exact of_decide_eq_false h ⟨hp.d0, hp.d1⟩
        · exact of_decide_eq_false h ⟨hp.e0, hp.e1⟩
      · simp only [not_or, Bool.not_eq_false] at hbad
        obtain ⟨hu, hd, hee⟩ := hbad
        have hd := of_decide_eq_true hd
        have hee := of_decide_eq_true hee
        obtain ⟨D, rfl⟩ : ∃ D : Nat, d = (D : Int) := ⟨d.toNat, by omega⟩
        obtain ⟨E, rfl⟩ : ∃ E : Nat, e = (E : Int) := ⟨e.toNat, by omega⟩
        by_cases hfew : xs.length < D + 1 + E
        · refine (bdec_few bf A A' c c' xs ys D E w hI he hl hu (by omega) (by omega) hfew).mono fun en w' h => .inr ⟨h, fun p hp => ?_⟩
          have := hp.own
          omega
        · exact callsIn_wide.1 (bdec_in bf A A' c c' xs ys D E (xs.length - (D + 1 + E)) w hF hI hI' he hl hu (by omega) (by omega) (by omega))
    · refine (bdec_many bf A A' c c' xs ys d e w he (by omega)).mono fun en w' h => .inr ⟨h, fun p hp => hl hp.few⟩
  · exact (bdec_len bf A A' c c' xs ys d e w he).mono fun en w' h => .inr ⟨h, fun p hp => he hp.len⟩
end Go.Proofs.Ytmcfkgjkfceomaa
