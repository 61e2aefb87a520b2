import Derived.Deep.Grids
import Derived.Test.YtgikgnhpplmljaaJ1
import Derived.Test.YtgikgnhpplmljaaJ2
import Derived.Test.YtgikgnhpplmljaaJ4
import Derived.Test.YtgikgnhpplmljaaJ5
import Derived.Test.YtgikgnhpplmljaaJ6
import Derived.Test.YtgikgnhpplmljaaJ11
import Derived.Test.YtgikgnhpplmljaaJ13
section
/- For OpenCorrects and OpenNever: a row of holders and a table of rows, which were appended side by side, as they are read. -/
namespace Gw
open Go Go.RowKit Go.Shelf Pol
theorem OwnJ.inz {w : World} {base c n : Nat} {e : TypeId} {A : Option Addr} {L : List Nat} (h : OwnJ w base e A c L) (hL : ∀ x ∈ L, x < n) (hn : n ≤ 1073741824) : InZ w w.heap.size A c (zOf L) := by
  refine ⟨fun i x hx => ?_, by rw [zOf_len]; exact h.inn.cap, h.inn.none_⟩
  unfold zOf at hx
  rw [List.getElem?_map] at hx
  obtain ⟨y, hy, rfl⟩ := Option.map_eq_some_iff.1 hx
  obtain ⟨g, hA, _, hc⟩ := h.at_ hy
  have hyl := hL y (List.mem_of_getElem? hy)
  refine ⟨?_, g, 0, hA, cell_lt hc, by rw [Nat.zero_add]; exact hc⟩
  have h1 : IntKind.i64.min = -9223372036854775808 := by decide
  simp [Lit.wf]
  rw [h1]
  exact ⟨by omega, by omega⟩
theorem Shr.shape {W : World} {base B : Nat} {te tb : TypeId} {v : Value} {k : Nat} {pa : Nat → Option Addr} {cp : Nat → Nat} {l : Nat → List Nat} (h : Shr W base B te tb v k pa cp l) : ∃ A c, v = .slice A k c ∧ k ≤ c ∧ (A = none → c = 0) := by
  rcases h.own.2 with ⟨hv, h0⟩ | ⟨g, cap, cur, hv, _, _, h1, _⟩
  · subst hv; exact ⟨none, 0, by rw [h0], by omega, fun _ => rfl⟩
  · subst hv; exact ⟨_, cap, rfl, h1, fun h => by cases h⟩
theorem Shr.min {W : World} {base B c k : Nat} {A : Option Addr} {te tb : TypeId} {pa : Nat → Option Addr} {cp : Nat → Nat} {l : Nat → List Nat} (h : Shr W base B te tb (.slice A k c) k pa cp l) (hB : B ≤ W.heap.size) : MIn W W.heap.size A c k pa cp l := by
  obtain ⟨A', c', hv, h1, h2⟩ := h.shape
  injection hv with e1 _ e2
  subst e1 e2
  refine ⟨fun i hi => ?_, h1, h2⟩
  rcases h.own.2 with ⟨hv, h0⟩ | ⟨g, cap, cur, hv, hb, hg, _⟩
  · omega
  · injection hv with e1 _ e2
    subst e1 e2
    refine ⟨g, 0, rfl, (Array.getElem?_eq_some_iff.1 hg).1, ?_, ?_⟩
    · rw [Nat.zero_add, h.own.cellAt i (by omega)]
      simp [rvl, hi]
    · rcases h.row i hi with h3 | h3
      · exact h3.more hB
      · exact h3.inn
end Gw
namespace Pol
theorem frL_lt {sk : List Bool} {q : Nat} : ∀ x ∈ frL sk q, x < q := fun _ hx => List.mem_range.1 (List.mem_filter.1 hx).1
end Pol
end
section
/- A row of bools as an argument: opened. -/
namespace Gw
open Go Go.RowKit Go.Shelf Go.ChangeShapes Go.WideShapes Go.ChangeAt
/-- A row of bools that is read. -/
structure InB (w : World) (B : Nat) (A : Option Addr) (c : Nat) (z : List Bool) : Prop where
  sl : ∀ (i : Nat) (x : Bool), z[i]? = some x → ∃ b off, A = some ⟨b, off, none⟩ ∧ b < B ∧ w.cell? ⟨b, off + i, none⟩ = some (.bool x)
  cap : z.length ≤ c
  none_ : A = none → c = 0
theorem InB.below {w w' : World} {B : Nat} {A : Option Addr} {c : Nat} {z : List Bool} (h : InB w B A c z) (hb : Below B w w') : InB w' B A c z := ⟨fun i x hx => by
  obtain ⟨b, off, h1, h2, h3⟩ := h.sl i x hx
  exact ⟨b, off, h1, h2, (hb.cell (p := ⟨b, off + i, none⟩) h2).trans h3⟩, h.cap, h.none_⟩
theorem InB.more {w : World} {B B' : Nat} {A : Option Addr} {c : Nat} {z : List Bool} (h : InB w B A c z) (hB : B ≤ B') : InB w B' A c z := ⟨fun i x hx => by
  obtain ⟨b, off, h1, h2, h3⟩ := h.sl i x hx
  exact ⟨b, off, h1, by omega, h3⟩, h.cap, h.none_⟩
theorem open_boolz {H : Type} {enc : TypeId × Value → H} {P : Program} {W : World} {t e : TypeId} {r : Reach} {base : Nat} {v : Value} {d : DataW H} {p : List MemPlace}
    (ht : P.underlying t = some (.slice e)) (he : P.underlying e = some .bool) (hc : P.cellsOf e = 1) (hok : Value.okWide P W r base t v) (h : DataW.Trod enc P W 0 (fun _ => true) true t v d p) :
    ∃ A c z, v = .slice A z.length c ∧ InB W W.heap.size A c z ∧ ((d = .nil ∧ c = 0) ∨ ∃ el sp, d = .slice el sp ∧ el.length + sp.length = c) := by
  obtain ⟨A, len, cap, rfl⟩ := okWide_slice ht hok
  obtain ⟨fuel, hf⟩ := h
  rcases Go.Deep.open_bools ht he hc hf with ⟨hcs, hx⟩ | ⟨a, len', cap', Bf, hcs, _, hl, hm, hx, hcell⟩
  · simp [Value.cells] at hcs
    obtain ⟨rfl, rfl, rfl⟩ := hcs
    injection hx with hx _
    exact ⟨none, 0, [], rfl, ⟨fun i x h => by simp at h, Nat.le_refl _, fun _ => rfl⟩, .inl ⟨hx, rfl⟩⟩
  · simp [Value.cells] at hcs
    obtain ⟨rfl, rfl, rfl⟩ := hcs
    injection hx with hx _
    have hll : ((List.range len).map Bf).length = len := by simp
    refine ⟨some a, cap, (List.range len).map Bf, by rw [hll], ⟨?_, by omega, fun h => by cases h⟩, .inr ⟨_, _, hx, ?_⟩⟩
    · intro i x hi
      have hil : i < len := by have := (List.getElem?_eq_some_iff.1 hi).1; simpa using this
      have hix : Bf i = x := by simpa [hil] using hi
      have hc0 := hcell i (by omega)
      rw [hix] at hc0
      obtain ⟨b, off, spot⟩ := a
      have hsp : spot = none := by
        have h0 := World.cell?_spot (hcell 0 (by omega))
        simpa [Addr.add] using h0
      subst hsp
      rw [addr_add] at hc0
      exact ⟨b, off, rfl, cell_lt hc0, hc0⟩
    · simp; omega
end Gw
end
section
/- 'append([]byte{}, s...)' as operations of a region that leaves its order open: no old memory is turned. -/
namespace Gw
open Go Go.RowKit Go.Shelf Pol
/-- A row of n bytes that holds l. -/
def RowIs (n : Nat) (l : List Nat) : Value → World → Prop := fun v w => ∃ A c, v = .slice A n c ∧ In w w.heap.size A c l
theorem RowIs.mono (n : Nat) (l : List Nat) : Gt.Mono (RowIs n l) := by
  rintro v w w' ⟨A, c, rfl, h⟩ hg
  exact ⟨A, c, rfl, (h.below hg).more hg.size⟩
/-- '[]byte{}', wherever it lies. -/
def NoneIs : Value → World → Prop := fun v _ => ∃ g, v = .slice (some ⟨g, 0, none⟩) 0 0
theorem NoneIs.mono : Gt.Mono NoneIs := fun _ _ _ h _ => h
theorem run_app0 {P : Program} {w : World} (t ty e : TypeId) (i : TypeInfo) (z : Value) (ht : P.underlying t = some (.slice e)) (hi : P.info? e = some i) (hz : i.zero = some z)
    (hsize : i.size = 1) (hby : i.bytes = 1) (g : Nat) (A' : Option Addr) (m c' : Nat) (l' : List Nat) (hm : m = l'.length) (hr : Sl w w.heap.size A' l') (hbytes : l'.length ≤ 140737488355328) :
    ∃ A2 c2 w', (Builtin.append_ #[t, t] ty #[.slice (some ⟨g, 0, none⟩) 0 0, .slice A' m c']).run P w = .ok (.slice A2 m c2) w' ∧ In w' w'.heap.size A2 c2 l' ∧ Below w.heap.size w w' := by
  subst hm
  by_cases h0 : l' = []
  · subst h0
    refine ⟨some ⟨g, 0, none⟩, 0, w, ?_, ⟨Sl.nil, Nat.le_refl _, fun h => by cases h⟩, Below.refl _ _⟩
    have hf : ∀ w : World, (Builtin.firstCells i.size 0 (.slice A' 0 c')).run P w = .ok #[] w := fun w => by
      cases A' <;> simp [Builtin.firstCells, loadCells, loadCellsFrom]
    simp [Builtin.append_, run_underlying ht, Go.sizeOf, typeInfo, hi, Builtin.lenOf, hf, storeCells]
  · have hpos : 0 < l'.length := List.length_pos_iff.2 h0
    obtain ⟨x, b, off, _, _, rfl, _, _⟩ := hr.at_ (k := 0) hpos
    have hrun := run_append_grow (P := P) w t ty e i z ht hi hz ⟨g, 0, none⟩ 0 0 [] (by simp) (fun j u hj => by simp at hj) ⟨b, off, none⟩ l'.length c' (bys l') (by rw [hsize, bys_len, Nat.mul_one]) (fun j u hj => by
      obtain ⟨y, hy, rfl⟩ := bys_get hj
      obtain ⟨_, b', off', hb, _, hcell⟩ := hr j y hy
      injection hb with hb
      injection hb with e1 e2
      subst e1 e2
      rw [addr_add]; exact hcell) (by omega) (by omega) (growslice_fits (by omega) (by rw [hby]; omega))
    have hge := grownCap_ge w (0 + l'.length) 0 e
    rw [Nat.zero_add] at hge
    refine ⟨_, _, _, hrun.trans (by rw [Nat.zero_add]), ⟨fun j y hy => ?_, by omega, fun h => by cases h⟩, ((Below.refl w.heap.size w).drew).alloc (Nat.le_refl _) _⟩
    refine ⟨hr.bb y (List.mem_of_getElem? hy), w.heap.size, 0, rfl, by rw [World.size_alloc]; show w.heap.size < w.drew.heap.size + 1; exact Nat.lt_succ_self _, ?_⟩
    have hlt : j < l'.length := (List.getElem?_eq_some_iff.1 hy).1
    rw [Nat.zero_add]
    refine (World.cell?_alloc_new w.drew _ e j).trans ?_
    rw [Array.getElem?_append_left (by simp [bys_len]; exact hlt)]
    simp only [List.append_toArray, List.nil_append, List.getElem?_toArray]
    exact bys_at hy
theorem ok_app {P : Program} {w w' : World} {V : Value → World → Prop} {ρ : Operand → Value} {o : Oper} {s x : Operand} {t : TypeId} {vs vx v : Value} (ho : o.op = .call { callee := .builtin .append, args := #[s, x], argTypes := #[t, t] })
    (hs : ρ s = vs) (hx : ρ x = vx) (hrun : (Builtin.append_ #[t, t] o.type #[vs, vx]).run P w = .ok v w') (hg : Gt.Gr w w') (hv : V v w') : Gt.StepOK P Gt.Gr V w ((execOp ρ o).run P w) := by
  refine Gt.ok_runW (v := v) (w' := w') ?_ hg hv
  unfold execOp
  simp only [ho, resolve, invoke, builtin, Sem.run_bind, Sem.run_pure, Result.andThen_ok, List.map_toArray, List.map_cons, List.map_nil, hs, hx, hrun]
end Gw
end
section
/- For OpenOrder: 'append(append(T{}, s[k:]...), s[:k]...)': what its operations make, for elements of one cell; rows in another order, as they are read. -/
namespace Gw
open Go Go.RowKit Go.Shelf Pol
theorem emod_nat (a b : Nat) : (a : Int) % (b : Int) = ((a % b : Nat) : Int) := (Int.natCast_emod a b).symm
theorem tmod_nat (a b : Nat) : ((a : Int)).tmod (b : Int) = ((a % b : Nat) : Int) := (Int.tmod_eq_emod_of_nonneg (Int.natCast_nonneg a)).trans (emod_nat a b)
/-- A row of n elements of the call's own. -/
def VIs (base : Nat) (e : TypeId) (n : Nat) (xs : List Value) : Value → World → Prop := fun v w => base ≤ (World.heap w).size ∧ w.ownsRow base e 1 v n xs
theorem VIs.mono (base : Nat) (e : TypeId) (n : Nat) (xs : List Value) : Gt.Mono (VIs base e n xs) := by
  rintro v w w' ⟨h1, h2⟩ hg
  refine ⟨Nat.le_trans h1 (Below.size hg), ?_⟩
  have hb : Below w.heap.size w w' := hg
  exact owns_by h2 (row := none) ⟨hb.os, hb.tape, hb.output, hb.size, fun i hi _ => hb.block i hi⟩ (fun _ h => by cases h)
theorem run_appV {P : Program} {w : World} (t ty e : TypeId) (i : TypeInfo) (z : Value) (bytes : Nat) (ht : P.underlying t = some (.slice e)) (hi : P.info? e = some i) (hz : i.zero = some z)
    (hsize : i.size = 1) (hby : i.bytes = bytes) (hzs : z.cells.size = 1) (g : Nat) (a : Addr) (m c : Nat) (news : List Value) (hm : 0 < m) (hl : news.length = m) (hnews : ∀ j u, news[j]? = some u → w.cell? (a.add j) = some u) (h63 : m ≤ maxLen) (hbytes : m * bytes ≤ 140737488355328) :
    ∃ v w', (Builtin.append_ #[t, t] ty #[.slice (some ⟨g, 0, none⟩) 0 0, .slice (some a) m c]).run P w = .ok v w' ∧ w'.ownsRow w.heap.size e 1 v m news ∧ Below w.heap.size w w' := by
  have hsm : m ≤ 9223372036854775807 := by simp only [maxLen] at h63; omega
  have hrun := run_append_grow (P := P) w t ty e i z ht hi hz ⟨g, 0, none⟩ 0 0 [] (by simp) (fun j u hj => by simp at hj) a m c news (by rw [hsize, hl, Nat.mul_one]) hnews (by omega) (by omega) (growslice_fits (by omega) (by rw [hby, Nat.zero_add]; exact hbytes))
  have hge := grownCap_ge w (0 + m) 0 e
  have hcm := grownCap_le_maxLen w (0 + m) 0 e (by rw [Nat.zero_add]; exact h63)
  rw [Nat.zero_add] at hge hcm hrun
  refine ⟨_, _, hrun, ⟨by rw [hl, Nat.mul_one], .inr ⟨w.heap.size, _, _, rfl, Nat.le_refl _, heap_alloc_new w.drew _, hge, hcm, ?_, ?_⟩⟩, ((Below.refl w.heap.size w).drew).alloc (Nat.le_refl _) _⟩
  · simp only [Array.size_append, List.size_toArray, List.length_nil, size_zeroCells, hzs, hl]
    omega
  · simp only [Array.toList_append, List.nil_append]
    rw [Nat.mul_one, ← hl]
    exact List.take_left
theorem sl_l {P : Program} {t : TypeId} (he : P.underlying t = some (.slice (P.elem t))) (h1 : ∀ w, (Go.sizeOf (P.elem t)).run P w = .ok 1 w) (b off R c κ ρ d o : Nat) (hκ : κ < R) (hc : R ≤ c) (hρ : ρ = R - κ) (hd : d = c - κ) (ho : o = off + κ) (w : World) :
    (Instr.sliceAt t (.slice (some ⟨b, off, none⟩) R c) (some (.int .i64 (κ : Int))) none none).run P w = .ok (.slice (some ⟨b, o, none⟩) ρ d) w := by
  rw [run_sliceAt_slice w _ _ _ _ _ he, run_slice_l w _ _ R c he .i64 (κ : Int) (by omega) (by omega), h1, Result.andThen_ok, Int.toNat_natCast]
  unfold sliced
  rw [if_neg (by omega), Option.map_some, Nat.mul_one, addr_add, hρ, hd, ho]
theorem sl_h {P : Program} {t : TypeId} (he : P.underlying t = some (.slice (P.elem t))) (h1 : ∀ w, (Go.sizeOf (P.elem t)).run P w = .ok 1 w) (b off R c κ : Nat) (hκ : κ < R) (hc : R ≤ c) (w : World) :
    (Instr.sliceAt t (.slice (some ⟨b, off, none⟩) R c) none (some (.int .i64 (κ : Int))) none).run P w = .ok (.slice (some ⟨b, off, none⟩) κ c) w := by
  rw [run_sliceAt_slice w _ _ _ _ _ he, run_slice_h w _ _ R c he .i64 (κ : Int) (by omega) (by omega), h1, Result.andThen_ok, Int.toNat_natCast]
  unfold sliced
  rw [if_neg (by omega), Option.map_some, Nat.mul_one, addr_add, Nat.sub_zero, Nat.sub_zero]
  rfl
/-- Such a row of ints, as it is read. -/
theorem ownz_inz {w : World} {base n : Nat} {e : TypeId} {v : Value} {Z : List Int} (h : w.ownsRow base e 1 v n (Z.map (Value.int .i64))) (hw : ∀ x ∈ Z, (Lit.int .i64 x).wf = true) : ∃ A c, v = .slice A n c ∧ n = Z.length ∧ InZ w w.heap.size A c Z := by
  have hn : n = Z.length := by have := h.1; rw [List.length_map] at this; omega
  rcases h.2 with ⟨hv, h0⟩ | ⟨g, cap, cur, hv, hb, hg, h1, _⟩
  · subst hv
    have : Z = [] := List.length_eq_zero_iff.1 (by omega)
    subst this
    exact ⟨none, 0, by rw [h0], hn, fun i x hx => by simp at hx, Nat.le_refl _, fun _ => rfl⟩
  · subst hv
    refine ⟨_, cap, rfl, hn, fun i x hx => ⟨hw x (List.mem_of_getElem? hx), g, 0, rfl, (Array.getElem?_eq_some_iff.1 hg).1, ?_⟩, by omega, fun h => by cases h⟩
    have hi := (List.getElem?_eq_some_iff.1 hx).1
    rw [Nat.zero_add, h.cellAt i (by omega)]
    simp [hx]
/-- Rows in another order. -/
theorem rvl_rot {pa : Nat → Option Addr} {cp : Nat → Nat} {l : Nat → List Nat} {R κ : Nat} (hκ : κ ≤ R) : (rvl pa cp l R).drop κ ++ (rvl pa cp l R).take κ = rvl (fun i => pa (rotS R κ i)) (fun i => cp (rotS R κ i)) (fun i => l (rotS R κ i)) R := by
  rw [← rot_list hκ (rvl pa cp l R) (rvl_len pa cp l R) (.bool false)]
  unfold rvl
  refine List.map_congr_left fun i hi => ?_
  have hi' := (rotS_sig hκ).lt (List.mem_range.1 hi)
  simp [hi']
theorem rows_min {w : World} {base B R : Nat} {te : TypeId} {v : Value} {pa : Nat → Option Addr} {cp : Nat → Nat} {l : Nat → List Nat} (h : w.ownsRow base te 1 v R (rvl pa cp l R)) (hr : ∀ i, i < R → In w B (pa i) (cp i) (l i)) (hB : B ≤ w.heap.size) : ∃ A c, v = .slice A R c ∧ MIn w w.heap.size A c R pa cp l := by
  have hs : Shr w base B te te v R pa cp l := ⟨h, fun i hi => .inl (hr i hi)⟩
  obtain ⟨A, c, rfl, _⟩ := hs.shape
  exact ⟨A, c, rfl, hs.min hB⟩
theorem rvl_one {pa : Nat → Option Addr} {cp : Nat → Nat} {l : Nat → List Nat} {R : Nat} : ∀ u ∈ rvl pa cp l R, u.oneCell' = true := fun u hu => by
  obtain ⟨i, _, rfl⟩ := List.mem_map.1 hu; rfl
theorem intz_one {Z : List Int} : ∀ u ∈ Z.map (Value.int .i64), u.oneCell' = true := fun u hu => by
  obtain ⟨x, _, rfl⟩ := List.mem_map.1 hu; rfl
end Gw
namespace Go.Proofs.Ytgikgnhpplmljaa
open Go.RowKit Go.Shelf Gw Pol
theorem iints_elem : Try.prog.underlying 24 = some (.slice (Try.prog.elem 24)) := by kernel_rfl
theorem iints_one (w : World) : (Go.sizeOf (Try.prog.elem 24)).run Try.prog w = .ok 1 w := by kernel_rfl
theorem irows_elem : Try.prog.underlying 25 = some (.slice (Try.prog.elem 25)) := by kernel_rfl
theorem irows_one (w : World) : (Go.sizeOf (Try.prog.elem 25)).run Try.prog w = .ok 1 w := by kernel_rfl
end Go.Proofs.Ytgikgnhpplmljaa
end
