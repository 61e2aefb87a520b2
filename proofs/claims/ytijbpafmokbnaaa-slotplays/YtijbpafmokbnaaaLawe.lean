/- How an argument that is a slice of calls (two ints, a byte, a slice of bytes) is opened. -/
import Derived.Deep.Slices
import Derived.SizedLaws
import Derived.Test.YtijbpafmokbnaaaLawo
namespace Gw
open Go Go.RowKit Go.Shelf Go.ChangeShapes Go.WideShapes Go.ChangeAt Go.Deep

/-- Calls that are read. -/
structure O4In (w : World) (B : Nat) (A : Option Addr) (c R : Nat) (K N : Nat → Int) (Y : Nat → Nat) (Q : Nat → Option Addr) (C : Nat → Nat) (l : Nat → List Nat) : Prop where
  at_ : ∀ i, i < R → ∃ b off, A = some ⟨b, off, none⟩ ∧ b < B ∧ (w.cell? ⟨b, off + i * 4, none⟩ = some (.int .i64 (K i)) ∧ w.cell? ⟨b, off + i * 4 + 1, none⟩ = some (.int .i64 (N i)) ∧
    w.cell? ⟨b, off + i * 4 + 2, none⟩ = some (.int .u8 (Y i : Int)) ∧ w.cell? ⟨b, off + i * 4 + 3, none⟩ = some (.slice (Q i) (l i).length (C i))) ∧ In w B (Q i) (C i) (l i) ∧ ((Lit.int .i64 (K i)).wf = true ∧ (Lit.int .i64 (N i)).wf = true ∧ Y i < 256)
  cap : R ≤ c
  none_ : A = none → c = 0
theorem O4In.below {w w' : World} {B : Nat} {A : Option Addr} {c R : Nat} {K N : Nat → Int} {Y : Nat → Nat} {Q : Nat → Option Addr} {C : Nat → Nat} {l : Nat → List Nat} (h : O4In w B A c R K N Y Q C l) (hb : Below B w w') : O4In w' B A c R K N Y Q C l :=
  ⟨fun i hi => by
    obtain ⟨b, off, h1, h2, ⟨g0, g1, g2, g3⟩, h5, h6⟩ := h.at_ i hi
    exact ⟨b, off, h1, h2, ⟨(hb.cell h2).trans g0, (hb.cell h2).trans g1, (hb.cell h2).trans g2, (hb.cell h2).trans g3⟩, h5.below hb, h6⟩, h.cap, h.none_⟩
theorem open_ops4 {H : Type} {enc : TypeId × Value → H} {P : Program} {W : World} {t e q : TypeId} {f0 f1 f2 f3 : Field} {r : Reach} {base : Nat} {v : Value} {d : DataW H} {p : List MemPlace}
    (ht : P.underlying t = some (.slice e)) (he : P.underlying e = some (.struct #[f0, f1, f2, f3])) (ce : P.cellsOf e = 4)
    (o : [f0, f1, f2, f3].map (·.offset) = [0, 1, 2, 3]) (c : [f0, f1, f2, f3].map (fun f => P.cellsOf f.type) = [1, 1, 1, 1])
    (t0 : P.underlying f0.type = some (.int .i64)) (t1 : P.underlying f1.type = some (.int .i64)) (t2 : P.underlying f2.type = some (.int .u8)) (t3 : P.underlying f3.type = some (.slice q)) (hq : P.underlying q = some (.int .u8)) (cq : P.cellsOf q = 1)
    (hok : Value.okWide P W r base t v) (h : DataW.Trod enc P W 0 (fun _ => true) true t v d p) :
    ∃ A c R K N Y Q C l, v = .slice A R c ∧ O4In W W.heap.size A c R K N Y Q C l ∧ ((d = .nil ∧ R = 0) ∨ ∃ (D : Nat → DataW H) (sp : List (DataW H)), d = .slice ((List.range R).map D) sp ∧
      ∀ i, i < R → ∃ E0 E1 E2 E3, D i = .agg [E0, E1, E2, E3] ∧ ((E3 = .nil ∧ l i = []) ∨ ∃ el sp, E3 = .slice el sp ∧ el.length = (l i).length)) := by
  simp only [List.map_cons, List.map_nil, List.cons.injEq, and_true] at o c
  obtain ⟨o0, o1, o2, o3⟩ := o
  obtain ⟨c0, c1, c2, c3⟩ := c
  obtain ⟨A, len, cap, rfl⟩ := okWide_slice ht hok
  obtain ⟨fuel, hf⟩ := h
  rcases open_slice ht hf with ⟨hcs, hx⟩ | ⟨a, len', cap', m, n, D, Pl, hcs, hb, hl, hm, hmm, hx, hrow⟩
  · simp [Value.cells] at hcs
    obtain ⟨rfl, rfl, rfl⟩ := hcs
    injection hx with hx _
    exact ⟨none, 0, 0, fun _ => 0, fun _ => 0, fun _ => 0, fun _ => none, fun _ => 0, fun _ => [], rfl, ⟨fun i hi => by omega, Nat.le_refl _, fun _ => rfl⟩, .inl ⟨hx, rfl⟩⟩
  · simp [Value.cells] at hcs
    obtain ⟨rfl, rfl, rfl⟩ := hcs
    injection hx with hx _
    simp only [if_true] at hmm
    subst hmm
    have each : ∀ i, i < m → ∃ y : Int × Int × Nat × Option Addr × Nat × List Nat, (W.cell? (a.add (i * 4)) = some (.int .i64 y.1) ∧ W.cell? (a.add (i * 4 + 1)) = some (.int .i64 y.2.1) ∧
        W.cell? (a.add (i * 4 + 2)) = some (.int .u8 (y.2.2.1 : Int)) ∧ W.cell? (a.add (i * 4 + 3)) = some (.slice y.2.2.2.1 y.2.2.2.2.2.length y.2.2.2.2.1)) ∧ In W W.heap.size y.2.2.2.1 y.2.2.2.2.1 y.2.2.2.2.2 ∧
        ((Lit.int .i64 y.1).wf = true ∧ (Lit.int .i64 y.2.1).wf = true ∧ y.2.2.1 < 256) ∧
        ∃ E0 E1 E2 E3, D i = .agg [E0, E1, E2, E3] ∧ ((E3 = .nil ∧ y.2.2.2.2.2 = []) ∨ ∃ el sp, E3 = .slice el sp ∧ el.length = y.2.2.2.2.2.length) := fun i hi => by
      obtain ⟨cs', h1, h2⟩ := hrow i hi
      rw [ce] at h1
      obtain ⟨_, hlen, hcell⟩ := World.cells?_some h1
      obtain ⟨xs, k, hk, hxy, _, hxl, hf⟩ := DataW.trod_struct he h2
      match xs, hxl, cs', hlen with
      | [y0, y1, y2, y3], _, [v0, v1, v2, v3], _ =>
        have g0 := hf 0 f0 rfl
        have g1 := hf 1 f1 rfl
        have g2 := hf 2 f2 rfl
        have g3 := hf 3 f3 rfl
        simp [o0, o1, o2, o3, c0, c1, c2, c3] at g0 g1 g2 g3
        have e0 := hcell 0 (by omega)
        have e1 := hcell 1 (by omega)
        have e2 := hcell 2 (by omega)
        have e3 := hcell 3 (by omega)
        rw [add_add] at e0 e1 e2 e3
        obtain ⟨z0, hz0, _, hw0⟩ := DataW.trod_int t0 g0
        obtain ⟨z1, hz1, _, hw1⟩ := DataW.trod_int t1 g1
        obtain ⟨z2, hz2, _, hw2⟩ := DataW.trod_int t2 g2
        obtain ⟨y, hy1, hy2, hy3⟩ := bytes_at t3 hq cq g3
        simp at hz0 hz1 hz2
        have hb2 := bounds_u8 hw2
        have hn2 : ((z2.toNat : Nat) : Int) = z2 := by omega
        simp only [Prod.mk.injEq] at hxy
        refine ⟨(z0, z1, z2.toNat, y.1, y.2.1, y.2.2), ⟨?_, ?_, ?_, ?_⟩, hy2, ⟨hw0, hw1, ?_⟩, y0.1, y1.1, y2.1, y3.1, by simpa using hxy.1, hy3⟩
        · rw [← hz0]; simpa using e0
        · rw [← hz1]; simpa using e1
        · show _ = some (Value.int .u8 ((z2.toNat : Nat) : Int)); rw [hn2, ← hz2]; simpa using e2
        · show _ = some (Value.slice y.1 y.2.2.length y.2.1); rw [← hy1]; simpa using e3
        · show z2.toNat < 256; omega
    obtain ⟨y, hy⟩ := choose_lt each
    refine ⟨some a, m, len, fun i => (y i).1, fun i => (y i).2.1, fun i => (y i).2.2.1, fun i => (y i).2.2.2.1, fun i => (y i).2.2.2.2.1, fun i => (y i).2.2.2.2.2, rfl, ⟨fun i hi => ?_, hl, fun h => by cases h⟩, .inr ⟨D, _, hx, fun i hi => (hy i (by omega)).2.2.2⟩⟩
    obtain ⟨⟨g0, g1, g2, g3⟩, h5, h6, _⟩ := hy i (by omega)
    obtain ⟨b, off, spot⟩ := a
    have hsp : spot = none := by
      have h0 := World.cell?_spot (hy 0 (by omega)).1.1
      simpa [Addr.add] using h0
    subst hsp
    rw [addr_add] at g0 g1 g2 g3
    exact ⟨b, off, rfl, cell_lt g0, ⟨g0, g1, g2, g3⟩, h5, h6⟩
theorem weights_all {H : Type} {P : Program} {e : TypeId} {d : DataW H} {n : Nat} : ∀ {l : List (DataW H)}, d ∈ l → n ∈ d.weights P e → n ∈ DataW.weightsAll P e l
  | [], h, _ => by cases h
  | d0 :: r, h, hn => by
    rw [DataW.weightsAll, List.mem_append]
    rcases List.mem_cons.1 h with rfl | h
    · exact .inl hn
    · exact .inr (weights_all h hn)
/-- How long the bytes of each call are. -/
theorem sized_ops4 {H : Type} {P : Program} {ts : List TypeId} {ds : List (DataW H)} {d : DataW H} {j : Nat} {t e q : TypeId} {f0 f1 f2 f3 : Field} {R : Nat} {l : Nat → List Nat} (hsz : (DataW.weightsEach P ts ds).all (· ≤ reachBytes) = true) (ht : ts[j]? = some t) (hd : ds[j]? = some d)
    (hu : P.underlying t = some (.slice e)) (he : P.underlying e = some (.struct #[f0, f1, f2, f3])) (t3 : P.underlying f3.type = some (.slice q)) (bq : P.bytesOf q = 1)
    (sh : (d = .nil ∧ R = 0) ∨ ∃ (D : Nat → DataW H) (sp : List (DataW H)), d = .slice ((List.range R).map D) sp ∧
      ∀ i, i < R → ∃ E0 E1 E2 E3, D i = .agg [E0, E1, E2, E3] ∧ ((E3 = .nil ∧ l i = []) ∨ ∃ el sp, E3 = .slice el sp ∧ el.length = (l i).length)) : ∀ i, i < R → (l i).length < 140737488355328 := by
  intro i hi
  rcases sh with ⟨_, rfl⟩ | ⟨D, sp, rfl, h⟩
  · omega
  · obtain ⟨E0, E1, E2, E3, hD, h3⟩ := h i hi
    rcases h3 with ⟨_, h3⟩ | ⟨el, sp', rfl, h3⟩
    · rw [h3]; decide
    · have hm : (el.length + sp'.length) * P.bytesOf q ∈ (DataW.slice el sp').weights P f3.type := by simp [DataW.weights, t3]
      have hm2 : (el.length + sp'.length) * P.bytesOf q ∈ (D i).weights P e := by
        rw [hD]
        simp only [DataW.weights, he]
        exact DataW.weights_mem_each (j := 3) (t := f3.type) (d := .slice el sp') rfl rfl _ hm
      have hm3 : (el.length + sp'.length) * P.bytesOf q ∈ (DataW.slice ((List.range R).map D) sp).weights P t := by
        simp only [DataW.weights, hu, List.mem_cons, List.mem_append]
        exact .inr (.inl (weights_all (List.mem_map.2 ⟨i, List.mem_range.2 hi, rfl⟩) hm2))
      have hle := List.all_eq_true.1 hsz _ (DataW.weights_mem_each ht hd _ hm3)
      rw [bq, Nat.mul_one] at hle
      have hle2 : el.length + sp'.length ≤ reachBytes := by simpa using hle
      have := reachBytes_lt
      have h47 : (2 : Nat) ^ 47 = 140737488355328 := by decide
      omega
end Gw
