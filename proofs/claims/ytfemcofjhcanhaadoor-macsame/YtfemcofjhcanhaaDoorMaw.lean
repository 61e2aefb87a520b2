/- 'append([]byte{}, s...)' as operations of a region that leaves its order open: no old memory is turned. -/
import Derived.Test.YtfemcofjhcanhaaDoorByt
import Derived.Test.YtfemcofjhcanhaaDoorGty
namespace Gw
open Go Go.RowKit Go.Shelf Pol
/-- A row of n bytes that holds l. -/
def RowIs (n : Nat) (l : List Nat) : Value → World → Prop := fun v w => ∃ A c, v = .slice A n c ∧ In w w.heap.size A c l
theorem RowIs.mono (n : Nat) (l : List Nat) : Gt.Mono (RowIs n l) := by
  rintro v w w' ⟨A, c, rfl, h⟩ hg
  exact ⟨A, c, rfl, (h.below hg).more hg.size⟩
/-- '[]byte{}', wherever it lies. -/
def NoneIs : Value → World → Prop := fun v _ => ∃ g, v = .slice (some ⟨g, 0, none⟩) 0 0
theorem NoneIs.mono : Gt.Mono NoneIs := fun _ _ _ h _ => h
theorem run_app0 {P : Program} {w : World} (t ty e : TypeId) (i : TypeInfo) (z : Value) (ht : P.underlying t = some (.slice e)) (hi : P.info? e = some i) (hz : i.zero = some z)
    (hsize : i.size = 1) (hby : i.bytes = 1) (g : Nat) (A' : Option Addr) (m c' : Nat) (l' : List Nat) (hm : m = l'.length) (hr : Sl w w.heap.size A' l') (hbytes : l'.length ≤ 140737488355328) :
    ∃ A2 c2 w', (Builtin.append_ #[t, t] ty #[.slice (some ⟨g, 0, none⟩) 0 0, .slice A' m c']).run P w = .ok (.slice A2 m c2) w' ∧ In w' w'.heap.size A2 c2 l' ∧ Below w.heap.size w w' := by
  subst hm
  by_cases h0 : l' = []
  · subst h0
    refine ⟨some ⟨g, 0, none⟩, 0, w, ?_, ⟨Sl.nil, Nat.le_refl _, fun h => by cases h⟩, Below.refl _ _⟩
    have hf : ∀ w : World, (Builtin.firstCells i.size 0 (.slice A' 0 c')).run P w = .ok #[] w := fun w => by
      cases A' <;> simp [Builtin.firstCells, loadCells, loadCellsFrom]
    simp [Builtin.append_, run_underlying ht, Go.sizeOf, typeInfo, hi, Builtin.lenOf, hf, storeCells]
  · have hpos : 0 < l'.length := List.length_pos_iff.2 h0
    obtain ⟨x, b, off, _, _, rfl, _, _⟩ := hr.at_ (k := 0) hpos
    have hrun := run_append_grow (P := P) w t ty e i z ht hi hz ⟨g, 0, none⟩ 0 0 [] (by simp) (fun j u hj => by simp at hj) ⟨b, off, none⟩ l'.length c' (bys l') (by rw [hsize, bys_len, Nat.mul_one]) (fun j u hj => by
      obtain ⟨y, hy, rfl⟩ := bys_get hj
      obtain ⟨_, b', off', hb, _, hcell⟩ := hr j y hy
      injection hb with hb
      injection hb with e1 e2
      subst e1 e2
      rw [addr_add]; exact hcell) (by omega) (by omega) (growslice_fits (by omega) (by rw [hby]; omega))
    have hge := grownCap_ge w (0 + l'.length) 0 e
    rw [Nat.zero_add] at hge
    refine ⟨_, _, _, hrun.trans (by rw [Nat.zero_add]), ⟨fun j y hy => ?_, by omega, fun h => by cases h⟩, ((Below.refl w.heap.size w).drew).alloc (Nat.le_refl _) _⟩
    refine ⟨hr.bb y (List.mem_of_getElem? hy), w.heap.size, 0, rfl, by rw [World.size_alloc]; show w.heap.size < w.drew.heap.size + 1; exact Nat.lt_succ_self _, ?_⟩
    have hlt : j < l'.length := (List.getElem?_eq_some_iff.1 hy).1
    rw [Nat.zero_add]
    refine (World.cell?_alloc_new w.drew _ e j).trans ?_
    rw [Array.getElem?_append_left (by simp [bys_len]; exact hlt)]
    simp only [List.append_toArray, List.nil_append, List.getElem?_toArray]
    exact bys_at hy
theorem ok_app {P : Program} {w w' : World} {V : Value → World → Prop} {ρ : Operand → Value} {o : Oper} {s x : Operand} {t : TypeId} {vs vx v : Value} (ho : o.op = .call { callee := .builtin .append, args := #[s, x], argTypes := #[t, t] })
    (hs : ρ s = vs) (hx : ρ x = vx) (hrun : (Builtin.append_ #[t, t] o.type #[vs, vx]).run P w = .ok v w') (hg : Gt.Gr w w') (hv : V v w') : Gt.StepOK P Gt.Gr V w ((execOp ρ o).run P w) := by
  refine Gt.ok_runW (v := v) (w' := w') ?_ hg hv
  unfold execOp
  simp only [ho, resolve, invoke, builtin, Sem.run_bind, Sem.run_pure, Result.andThen_ok, List.map_toArray, List.map_cons, List.map_nil, hs, hx, hrun]
end Gw
