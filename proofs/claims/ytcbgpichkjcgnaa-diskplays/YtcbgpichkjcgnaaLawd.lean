/- How an argument that is a slice of calls (three ints, a byte, a slice of bytes) is opened. -/
import Derived.Deep.Slices
import Derived.Test.YtcbgpichkjcgnaaLawo
namespace Gw
open Go Go.RowKit Go.Shelf Go.ChangeShapes Go.WideShapes Go.ChangeAt Go.Deep

/-- Calls that are read. -/
structure O5In (w : World) (B : Nat) (A : Option Addr) (c R : Nat) (K N T : Nat → Int) (Y : Nat → Nat) (Q : Nat → Option Addr) (C : Nat → Nat) (l : Nat → List Nat) : Prop where
  at_ : ∀ i, i < R → ∃ b off, A = some ⟨b, off, none⟩ ∧ b < B ∧ (w.cell? ⟨b, off + i * 5, none⟩ = some (.int .i64 (K i)) ∧ w.cell? ⟨b, off + i * 5 + 1, none⟩ = some (.int .i64 (N i)) ∧ w.cell? ⟨b, off + i * 5 + 2, none⟩ = some (.int .i64 (T i)) ∧
    w.cell? ⟨b, off + i * 5 + 3, none⟩ = some (.int .u8 (Y i : Int)) ∧ w.cell? ⟨b, off + i * 5 + 4, none⟩ = some (.slice (Q i) (l i).length (C i))) ∧ In w B (Q i) (C i) (l i) ∧ ((Lit.int .i64 (K i)).wf = true ∧ (Lit.int .i64 (N i)).wf = true ∧ (Lit.int .i64 (T i)).wf = true ∧ Y i < 256)
  cap : R ≤ c
  none_ : A = none → c = 0
theorem O5In.below {w w' : World} {B : Nat} {A : Option Addr} {c R : Nat} {K N T : Nat → Int} {Y : Nat → Nat} {Q : Nat → Option Addr} {C : Nat → Nat} {l : Nat → List Nat} (h : O5In w B A c R K N T Y Q C l) (hb : Below B w w') : O5In w' B A c R K N T Y Q C l :=
  ⟨fun i hi => by
    obtain ⟨b, off, h1, h2, ⟨g0, g1, g2, g3, g4⟩, h5, h6⟩ := h.at_ i hi
    exact ⟨b, off, h1, h2, ⟨(hb.cell h2).trans g0, (hb.cell h2).trans g1, (hb.cell h2).trans g2, (hb.cell h2).trans g3, (hb.cell h2).trans g4⟩, h5.below hb, h6⟩, h.cap, h.none_⟩
theorem open_ops5 {H : Type} {enc : TypeId × Value → H} {P : Program} {W : World} {t e q : TypeId} {f0 f1 f2 f3 f4 : Field} {r : Reach} {base : Nat} {v : Value} {d : DataW H} {p : List MemPlace}
    (ht : P.underlying t = some (.slice e)) (he : P.underlying e = some (.struct #[f0, f1, f2, f3, f4])) (ce : P.cellsOf e = 5)
    (o : [f0, f1, f2, f3, f4].map (·.offset) = [0, 1, 2, 3, 4]) (c : [f0, f1, f2, f3, f4].map (fun f => P.cellsOf f.type) = [1, 1, 1, 1, 1])
    (t0 : P.underlying f0.type = some (.int .i64)) (t1 : P.underlying f1.type = some (.int .i64)) (t2 : P.underlying f2.type = some (.int .i64)) (t3 : P.underlying f3.type = some (.int .u8)) (t4 : P.underlying f4.type = some (.slice q)) (hq : P.underlying q = some (.int .u8)) (cq : P.cellsOf q = 1)
    (hok : Value.okWide P W r base t v) (h : DataW.Trod enc P W 0 (fun _ => true) true t v d p) :
    ∃ A c R K N T Y Q C l, v = .slice A R c ∧ O5In W W.heap.size A c R K N T Y Q C l := by
  simp only [List.map_cons, List.map_nil, List.cons.injEq, and_true] at o c
  obtain ⟨o0, o1, o2, o3, o4⟩ := o
  obtain ⟨c0, c1, c2, c3, c4⟩ := c
  obtain ⟨A, len, cap, rfl⟩ := okWide_slice ht hok
  obtain ⟨fuel, hf⟩ := h
  rcases open_slice ht hf with ⟨hcs, hx⟩ | ⟨a, len', cap', m, n, D, Pl, hcs, hb, hl, hm, hmm, hx, hrow⟩
  · simp [Value.cells] at hcs
    obtain ⟨rfl, rfl, rfl⟩ := hcs
    exact ⟨none, 0, 0, fun _ => 0, fun _ => 0, fun _ => 0, fun _ => 0, fun _ => none, fun _ => 0, fun _ => [], rfl, ⟨fun i hi => by omega, Nat.le_refl _, fun _ => rfl⟩⟩
  · simp [Value.cells] at hcs
    obtain ⟨rfl, rfl, rfl⟩ := hcs
    simp only [if_true] at hmm
    subst hmm
    have each : ∀ i, i < m → ∃ y : Int × Int × Int × Nat × Option Addr × Nat × List Nat, (W.cell? (a.add (i * 5)) = some (.int .i64 y.1) ∧ W.cell? (a.add (i * 5 + 1)) = some (.int .i64 y.2.1) ∧ W.cell? (a.add (i * 5 + 2)) = some (.int .i64 y.2.2.1) ∧
        W.cell? (a.add (i * 5 + 3)) = some (.int .u8 (y.2.2.2.1 : Int)) ∧ W.cell? (a.add (i * 5 + 4)) = some (.slice y.2.2.2.2.1 y.2.2.2.2.2.2.length y.2.2.2.2.2.1)) ∧ In W W.heap.size y.2.2.2.2.1 y.2.2.2.2.2.1 y.2.2.2.2.2.2 ∧
        ((Lit.int .i64 y.1).wf = true ∧ (Lit.int .i64 y.2.1).wf = true ∧ (Lit.int .i64 y.2.2.1).wf = true ∧ y.2.2.2.1 < 256) := fun i hi => by
      obtain ⟨cs', h1, h2⟩ := hrow i hi
      rw [ce] at h1
      obtain ⟨_, hlen, hcell⟩ := World.cells?_some h1
      obtain ⟨xs, k, hk, hxy, _, hxl, hf⟩ := DataW.trod_struct he h2
      match xs, hxl, cs', hlen with
      | [y0, y1, y2, y3, y4], _, [v0, v1, v2, v3, v4], _ =>
        have g0 := hf 0 f0 rfl
        have g1 := hf 1 f1 rfl
        have g2 := hf 2 f2 rfl
        have g3 := hf 3 f3 rfl
        have g4 := hf 4 f4 rfl
        simp [o0, o1, o2, o3, o4, c0, c1, c2, c3, c4] at g0 g1 g2 g3 g4
        have e0 := hcell 0 (by omega)
        have e1 := hcell 1 (by omega)
        have e2 := hcell 2 (by omega)
        have e3 := hcell 3 (by omega)
        have e4 := hcell 4 (by omega)
        rw [add_add] at e0 e1 e2 e3 e4
        obtain ⟨z0, hz0, _, hw0⟩ := DataW.trod_int t0 g0
        obtain ⟨z1, hz1, _, hw1⟩ := DataW.trod_int t1 g1
        obtain ⟨z2, hz2, _, hw2⟩ := DataW.trod_int t2 g2
        obtain ⟨z3, hz3, _, hw3⟩ := DataW.trod_int t3 g3
        obtain ⟨y, hy1, hy2, _⟩ := bytes_at t4 hq cq g4
        simp at hz0 hz1 hz2 hz3
        have hb3 := bounds_u8 hw3
        have hn3 : ((z3.toNat : Nat) : Int) = z3 := by omega
        refine ⟨(z0, z1, z2, z3.toNat, y.1, y.2.1, y.2.2), ⟨?_, ?_, ?_, ?_, ?_⟩, hy2, hw0, hw1, hw2, ?_⟩
        · rw [← hz0]; simpa using e0
        · rw [← hz1]; simpa using e1
        · rw [← hz2]; simpa using e2
        · show _ = some (Value.int .u8 ((z3.toNat : Nat) : Int)); rw [hn3, ← hz3]; simpa using e3
        · show _ = some (Value.slice y.1 y.2.2.length y.2.1); rw [← hy1]; simpa using e4
        · show z3.toNat < 256; omega
    obtain ⟨y, hy⟩ := choose_lt each
    refine ⟨some a, m, len, fun i => (y i).1, fun i => (y i).2.1, fun i => (y i).2.2.1, fun i => (y i).2.2.2.1, fun i => (y i).2.2.2.2.1, fun i => (y i).2.2.2.2.2.1, fun i => (y i).2.2.2.2.2.2, rfl, ⟨fun i hi => ?_, hl, fun h => by cases h⟩⟩
    obtain ⟨⟨g0, g1, g2, g3, g4⟩, h5, h6⟩ := hy i (by omega)
    obtain ⟨b, off, spot⟩ := a
    have hsp : spot = none := by
      have h0 := World.cell?_spot (hy 0 (by omega)).1.1
      simpa [Addr.add] using h0
    subst hsp
    rw [addr_add] at g0 g1 g2 g3 g4
    exact ⟨b, off, rfl, cell_lt g0, ⟨g0, g1, g2, g3, g4⟩, h5, h6⟩
end Gw
