/- A message as an argument: opened; and what the bound on all that comes in says of it. -/
import Derived.Deep.SlicePairs
import Derived.Test.YtabalhhodcajmaaLawo
import Derived.Test.YtabalhhodcajmaaWib
import Derived.Test.YtabalhhodcajmaaBulk
namespace Gw
open Go Go.RowKit Go.Shelf Go.ChangeShapes Go.WideShapes Go.ChangeAt Go.Deep Pol
theorem ba_str (s : ByteArray) : ∃ l, s = str l ∧ BB l ∧ s.data.toList.length = l.length := by
  refine ⟨s.data.toList.map UInt8.toNat, ?_, fun x hx => ?_, by simp⟩
  · have h : (str (s.data.toList.map UInt8.toNat)).data.toList = s.data.toList := by
      show (strOfNums (nums _)).data.toList = _
      rw [strOfNums_data, nums, List.map_map, List.map_map]
      conv => rhs; rw [← List.map_id s.data.toList]
      apply List.map_congr_left
      intro b _
      simp
    have h2 : (str (s.data.toList.map UInt8.toNat)).data = s.data := Array.toList_inj.1 h
    cases s with
    | mk data =>
      cases hq : str (List.map UInt8.toNat data.toList) with
      | mk d2 =>
        have h3 : d2 = data := by rw [hq] at h2; exact h2
        rw [h3]
  · obtain ⟨b, _, rfl⟩ := List.mem_map.1 hx
    exact b.toNat_lt
section
variable {H : Type} {enc : TypeId × Value → H} {P : Program} {W : World}
/-- A row of heads, cell by cell. -/
theorem heads_at {t e : TypeId} {f0 f1 : Field} {fuel : Nat} {v : Value} {x : DataW H × List MemPlace} (ht : P.underlying t = some (.slice e)) (he : P.underlying e = some (.struct #[f0, f1])) (ce : P.cellsOf e = 2) (o0 : f0.offset = 0) (o1 : f1.offset = 1) (k0 : P.cellsOf f0.type = 1) (k1 : P.cellsOf f1.type = 1)
    (t0 : P.underlying f0.type = some .string) (t1 : P.underlying f1.type = some (.int .i64)) (h : DataW.trod enc P W 0 (fun _ => true) true fuel t [v] = some x) :
    ∃ A R c hs, v = .slice A R c ∧ R = hs.length ∧ HIn W W.heap.size A c hs ∧ ((x.1 = .nil ∧ hs = []) ∨ ∃ (B : Nat → List UInt8) (Z : Nat → Int) (sp : List (DataW H)), x.1 = .slice ((List.range hs.length).map fun i => .agg [.lit (.string (B i)), .lit (.int .i64 (Z i))]) sp ∧ ∀ (i : Nat) (u : List Nat × Int), hs[i]? = some u → (B i).length = u.1.length) := by
  rcases open_slice_pairs ht he ce o0 o1 k0 k1 h with ⟨hcs, hx⟩ | ⟨a, len, cap, m, n, V0, V1, D0, D1, P0, P1, hcs, _, hl, hm, hmm, hx, hrow⟩
  · simp at hcs
    subst hcs hx
    exact ⟨none, 0, 0, [], rfl, rfl, HIn.nil _ _, .inl ⟨rfl, rfl⟩⟩
  · simp at hcs
    subst hcs hx
    simp only [if_true] at hmm
    subst hmm
    have each : ∀ i, i < m → ∃ y : ByteArray × List Nat × Int, V0 i = .string y.1 ∧ y.1 = str y.2.1 ∧ BB y.2.1 ∧ y.1.data.toList.length = y.2.1.length ∧ V1 i = .int .i64 y.2.2 ∧ (Lit.int .i64 y.2.2).wf = true ∧ D0 i = .lit (.string y.1.data.toList) ∧ D1 i = .lit (.int .i64 y.2.2) := fun i hi => by
      obtain ⟨_, _, g0, g1⟩ := hrow i hi
      obtain ⟨s, hs1, hs2, _⟩ := DataW.trod_string t0 g0
      obtain ⟨z, hz1, hz2, hz3⟩ := DataW.trod_int t1 g1
      obtain ⟨l, q1, q2, q3⟩ := ba_str s
      simp only [Prod.mk.injEq] at hs2 hz2
      exact ⟨(s, l, z), by simpa using hs1, q1, q2, q3, by simpa using hz1, hz3, hs2.1, hz2.1⟩
    obtain ⟨y, hy⟩ := choose_lt each
    have hlen : ((List.range len).map fun i => ((y i).2.1, (y i).2.2)).length = len := by simp
    refine ⟨some a, len, m, (List.range len).map fun i => ((y i).2.1, (y i).2.2), rfl, hlen.symm, ⟨fun i u hu => ?_, by rw [hlen]; exact hl, fun h => by cases h⟩, .inr ⟨fun i => (y i).1.data.toList, fun i => (y i).2.2, (List.range (m - len)).map fun j => .agg [D0 (len + j), D1 (len + j)], ?_, fun i u hu => ?_⟩⟩
    · have hi : i < len := by have := (List.getElem?_eq_some_iff.1 hu).1; rw [hlen] at this; exact this
      have hu2 : u = ((y i).2.1, (y i).2.2) := by
        rw [List.getElem?_map, List.getElem?_range hi] at hu
        simpa using hu.symm
      obtain ⟨h1, h2, h3, h4, h5, h6, _, _⟩ := hy i (by omega)
      obtain ⟨g0, g1, _, _⟩ := hrow i (by omega)
      obtain ⟨b, off, spot⟩ := a
      have hsp : spot = none := by
        have h0 := World.cell?_spot (hrow 0 (by omega)).1
        simpa [Addr.add] using h0
      subst hsp
      rw [addr_add] at g0 g1
      rw [hu2]
      exact ⟨h3, h6, b, off, rfl, cell_lt g0, by rw [← h2, ← h1]; exact g0, by rw [← h5]; exact g1⟩
    · rw [hlen]
      refine congrArg (fun z => DataW.slice z ((List.range (m - len)).map fun j => .agg [D0 (len + j), D1 (len + j)])) ?_
      exact List.map_congr_left fun i hi => by
        have hi' : i < len := by simpa using hi
        obtain ⟨_, _, _, _, _, _, h7, h8⟩ := hy i (by omega)
        rw [h7, h8]
    · have hi : i < len := by have := (List.getElem?_eq_some_iff.1 hu).1; rw [hlen] at this; exact this
      have hu2 : u = ((y i).2.1, (y i).2.2) := by
        rw [List.getElem?_map, List.getElem?_range hi] at hu
        simpa using hu.symm
      rw [hu2]
      exact (hy i (by omega)).2.2.2.1
/-- A row of ints, cell by cell. -/
theorem intz_at {t e : TypeId} {fuel : Nat} {v : Value} {x : DataW H × List MemPlace} (ht : P.underlying t = some (.slice e)) (he : P.underlying e = some (.int .i64)) (hc : P.cellsOf e = 1) (h : DataW.trod enc P W 0 (fun _ => true) true fuel t [v] = some x) :
    ∃ A R c zs, v = .slice A R c ∧ R = zs.length ∧ InZ W W.heap.size A c zs ∧ ((x.1 = .nil ∧ zs = []) ∨ ∃ el sp, x.1 = .slice el sp ∧ el.length = zs.length) := by
  rcases open_ints ht he hc h with ⟨hcs, hx⟩ | ⟨a, len, cap, zs, hcs, _, hl, hm, hz, hx, hcell, hwz⟩
  · simp at hcs
    subst hcs hx
    exact ⟨none, 0, 0, [], rfl, rfl, InZ.nil _ _, .inl ⟨rfl, rfl⟩⟩
  · simp at hcs
    subst hcs hx
    simp only [if_true] at hz
    have hll : (zs.take len).length = len := by rw [List.length_take]; omega
    refine ⟨some a, len, cap, zs.take len, rfl, hll.symm, ⟨fun i x hi => ?_, by omega, fun h => by cases h⟩, .inr ⟨_, _, rfl, by simp [lits]⟩⟩
    have hil : i < (zs.take len).length := (List.getElem?_eq_some_iff.1 hi).1
    have hiz : i < zs.length := by omega
    rw [List.getElem?_take, if_pos (by omega), List.getElem?_eq_getElem hiz] at hi
    injection hi with hi
    have hc0 := hcell i hiz
    have hg : zs.getD i 0 = zs[i] := by simp [List.getD, hiz]
    rw [hg, hi] at hc0
    obtain ⟨b, off, spot⟩ := a
    have hsp : spot = none := by
      have h0 := World.cell?_spot (hcell 0 (by omega))
      simpa [Addr.add] using h0
    subst hsp
    rw [addr_add] at hc0
    exact ⟨hwz x (by rw [← hi]; exact List.getElem_mem hiz), b, off, rfl, cell_lt hc0, hc0⟩
theorem array16 {α : Type} {cs : Array α} (h : cs.size = 16) : ∃ c0 c1 c2 c3 c4 c5 c6 c7 c8 c9 c10 c11 c12 c13 c14 c15, cs = #[c0, c1, c2, c3, c4, c5, c6, c7, c8, c9, c10, c11, c12, c13, c14, c15] := by
  obtain ⟨l⟩ := cs
  match l, h with
  | [c0, c1, c2, c3, c4, c5, c6, c7, c8, c9, c10, c11, c12, c13, c14, c15], _ => exact ⟨c0, c1, c2, c3, c4, c5, c6, c7, c8, c9, c10, c11, c12, c13, c14, c15, rfl⟩
/-- How a message reads, part by part. -/
def MgD (d : DataW H) (m : Mg) : Prop := ∃ e0 e1 e2 e3 e4 e5 e6 e7 e8 e9 e10 e11 e12 e13 e14 e15 : DataW H, d = .agg [e0, e1, e2, e3, e4, e5, e6, e7, e8, e9, e10, e11, e12, e13, e14, e15] ∧
  ((e7 = .nil ∧ m.hs = []) ∨ ∃ (B : Nat → List UInt8) (Z : Nat → Int) (sp : List (DataW H)), e7 = .slice ((List.range m.hs.length).map fun i => .agg [.lit (.string (B i)), .lit (.int .i64 (Z i))]) sp ∧ ∀ (i : Nat) (u : List Nat × Int), m.hs[i]? = some u → (B i).length = u.1.length) ∧
  (∃ b, e8 = .lit (.string b) ∧ b.length = m.id.length) ∧
  ((e12 = .nil ∧ m.ds = []) ∨ ∃ el sp, e12 = .slice el sp ∧ el.length = m.ds.length) ∧ ((e13 = .nil ∧ m.ps = []) ∨ ∃ el sp, e13 = .slice el sp ∧ el.length = m.ps.length) ∧ ((e15 = .nil ∧ m.da = []) ∨ ∃ el sp, e15 = .slice el sp ∧ el.length = m.da.length)
end
end Gw
namespace Go.Proofs.Ytabalhhodcajmaa
open Go.RowKit Go.Shelf Gw Pol Go.ChangeShapes Go.WideShapes Go.ChangeAt Go.Deep
theorem open_msg {H : Type} {enc : TypeId × Value → H} {W : World} {r : Reach} {base : Nat} {v : Value} {d : DataW H} {p : List MemPlace} (hv : Value.okWide Try.prog W r base 27 v) (h : DataW.Trod enc Try.prog W 0 (fun _ => true) true 27 v d p) :
    ∃ m a, v = mval m a ∧ MgIn W W.heap.size m a ∧ MgD d m := by
  have hC : Try.prog.cellsOf 27 = 16 := by kernel_rfl
  have k22 : Try.prog.cellsOf 22 = 1 := by kernel_rfl
  have k23 : Try.prog.cellsOf 23 = 1 := by kernel_rfl
  have k25 : Try.prog.cellsOf 25 = 1 := by kernel_rfl
  have k24 : Try.prog.cellsOf 24 = 1 := by kernel_rfl
  have k3 : Try.prog.cellsOf 3 = 1 := by kernel_rfl
  have k9 : Try.prog.cellsOf 9 = 1 := by kernel_rfl
  obtain ⟨cs, rfl, hsz⟩ := okWide_struct Try.underlying27 hv
  obtain ⟨c0, c1, c2, c3, c4, c5, c6, c7, c8, c9, c10, c11, c12, c13, c14, c15, rfl⟩ := array16 (hsz.trans hC)
  obtain ⟨fuel, hf⟩ := h
  obtain ⟨xs, n, _, hx, hl, hlen, hfs⟩ := DataW.trod_struct Try.underlying27 hf
  match xs, hlen with
  | [y0, y1, y2, y3, y4, y5, y6, y7, y8, y9, y10, y11, y12, y13, y14, y15], _ =>
    have g0 : DataW.trod enc Try.prog W 0 (fun _ => true) true n 3 [c0] = some y0 := by simpa [Value.cells, k3] using hfs 0 _ rfl
    have g1 : DataW.trod enc Try.prog W 0 (fun _ => true) true n 3 [c1] = some y1 := by simpa [Value.cells, k3] using hfs 1 _ rfl
    have g2 : DataW.trod enc Try.prog W 0 (fun _ => true) true n 3 [c2] = some y2 := by simpa [Value.cells, k3] using hfs 2 _ rfl
    have g3 : DataW.trod enc Try.prog W 0 (fun _ => true) true n 3 [c3] = some y3 := by simpa [Value.cells, k3] using hfs 3 _ rfl
    have g4 : DataW.trod enc Try.prog W 0 (fun _ => true) true n 3 [c4] = some y4 := by simpa [Value.cells, k3] using hfs 4 _ rfl
    have g5 : DataW.trod enc Try.prog W 0 (fun _ => true) true n 3 [c5] = some y5 := by simpa [Value.cells, k3] using hfs 5 _ rfl
    have g6 : DataW.trod enc Try.prog W 0 (fun _ => true) true n 3 [c6] = some y6 := by simpa [Value.cells, k3] using hfs 6 _ rfl
    have g7 : DataW.trod enc Try.prog W 0 (fun _ => true) true n 22 [c7] = some y7 := by simpa [Value.cells, k22] using hfs 7 _ rfl
    have g8 : DataW.trod enc Try.prog W 0 (fun _ => true) true n 9 [c8] = some y8 := by simpa [Value.cells, k9] using hfs 8 _ rfl
    have g9 : DataW.trod enc Try.prog W 0 (fun _ => true) true n 3 [c9] = some y9 := by simpa [Value.cells, k3] using hfs 9 _ rfl
    have g10 : DataW.trod enc Try.prog W 0 (fun _ => true) true n 3 [c10] = some y10 := by simpa [Value.cells, k3] using hfs 10 _ rfl
    have g11 : DataW.trod enc Try.prog W 0 (fun _ => true) true n 3 [c11] = some y11 := by simpa [Value.cells, k3] using hfs 11 _ rfl
    have g12 : DataW.trod enc Try.prog W 0 (fun _ => true) true n 23 [c12] = some y12 := by simpa [Value.cells, k23] using hfs 12 _ rfl
    have g13 : DataW.trod enc Try.prog W 0 (fun _ => true) true n 23 [c13] = some y13 := by simpa [Value.cells, k23] using hfs 13 _ rfl
    have g14 : DataW.trod enc Try.prog W 0 (fun _ => true) true n 24 [c14] = some y14 := by simpa [Value.cells, k24] using hfs 14 _ rfl
    have g15 : DataW.trod enc Try.prog W 0 (fun _ => true) true n 25 [c15] = some y15 := by simpa [Value.cells, k25] using hfs 15 _ rfl
    obtain ⟨a0, e0, x0, w0⟩ := DataW.trod_int Try.underlying3 g0
    injection e0 with e0
    subst e0 x0
    obtain ⟨a1, e1, x1, w1⟩ := DataW.trod_int Try.underlying3 g1
    injection e1 with e1
    subst e1 x1
    obtain ⟨a2, e2, x2, w2⟩ := DataW.trod_int Try.underlying3 g2
    injection e2 with e2
    subst e2 x2
    obtain ⟨a3, e3, x3, w3⟩ := DataW.trod_int Try.underlying3 g3
    injection e3 with e3
    subst e3 x3
    obtain ⟨a4, e4, x4, w4⟩ := DataW.trod_int Try.underlying3 g4
    injection e4 with e4
    subst e4 x4
    obtain ⟨a5, e5, x5, w5⟩ := DataW.trod_int Try.underlying3 g5
    injection e5 with e5
    subst e5 x5
    obtain ⟨a6, e6, x6, w6⟩ := DataW.trod_int Try.underlying3 g6
    injection e6 with e6
    subst e6 x6
    obtain ⟨a9, e9, x9, w9⟩ := DataW.trod_int Try.underlying3 g9
    injection e9 with e9
    subst e9 x9
    obtain ⟨a10, e10, x10, w10⟩ := DataW.trod_int Try.underlying3 g10
    injection e10 with e10
    subst e10 x10
    obtain ⟨a11, e11, x11, w11⟩ := DataW.trod_int Try.underlying3 g11
    injection e11 with e11
    subst e11 x11
    obtain ⟨a14, e14, x14, w14⟩ := DataW.trod_int Try.underlying24 g14
    injection e14 with e14
    subst e14 x14
    obtain ⟨sb, e8, x8, _⟩ := DataW.trod_string Try.underlying9 g8
    injection e8 with e8
    subst e8 x8
    obtain ⟨li, q1, q2, q3⟩ := ba_str sb
    obtain ⟨HA, HN, HC, hs, rfl, hn, hI7, hd7⟩ := heads_at Try.underlying22 Try.underlying38 (by kernel_rfl) rfl rfl (by kernel_rfl) (by kernel_rfl) Try.underlying9 Try.underlying3 g7
    obtain ⟨DA, DN, DC, ds, rfl, dn, hI12, hd12⟩ := intz_at Try.underlying23 Try.underlying3 (by kernel_rfl) g12
    obtain ⟨PA, PN, PC, ps, rfl, pn, hI13, hd13⟩ := intz_at Try.underlying23 Try.underlying3 (by kernel_rfl) g13
    obtain ⟨yq, rfl, hI15, hd15⟩ := bytes_at Try.underlying25 Try.underlying5 (by kernel_rfl) g15
    simp only [Prod.mk.injEq] at hx
    refine ⟨⟨a0, a1, a2, a3, a4, a5, a6, hs, li, a9, a10, a11, ds, ps, a14, yq.2.2⟩, ⟨HA, HN, HC, DA, DN, DC, PA, PN, PC, yq.1, yq.2.2.length, yq.2.1⟩, by rw [q1], ⟨hI7, hn, q2, hI12, dn, hI13, pn, hI15, rfl, fun x hx => ?_⟩, ?_⟩
    · simp only [Mg.ints, List.mem_cons, List.not_mem_nil, or_false] at hx
      rcases hx with rfl | rfl | rfl | rfl | rfl | rfl | rfl | rfl | rfl | rfl | rfl <;> assumption
    · exact ⟨_, _, _, _, _, _, _, _, _, _, _, _, _, _, _, _, hx.1, hd7, ⟨_, rfl, q3⟩, hd12, hd13, hd15⟩
/-- What is of small bulk has not many bytes. -/
theorem heads_small {H : Type} {B : Nat → List UInt8} {Z : Nat → Int} (hs : List (List Nat × Int)) (h : ∀ (i : Nat) (u : List Nat × Int), hs[i]? = some u → (B i).length = u.1.length) :
    szT (tkH hs) ≤ 2 * Rows.uptoBulkAll ((List.range hs.length).map fun i => (.agg [.lit (.string (B i)), .lit (.int .i64 (Z i))] : DataW H)) := by
  induction hs generalizing B Z with
  | nil => exact Nat.zero_le _
  | cons x t ih =>
    have h0 := h 0 x rfl
    have h1 := ih (B := fun i => B (i + 1)) (Z := fun i => Z (i + 1)) (fun i u hu => h (i + 1) u hu)
    have e1 : szT (tkH (x :: t)) = x.1.length + 2 + (4 + szT (tkH t)) := rfl
    rw [e1, List.length_cons, List.range_succ_eq_map, List.map_cons, List.map_map, bulks.cons]
    simp only [Rows.uptoBulk, Rows.uptoBulkAll]
    have e2 : (List.map ((fun i => (.agg [.lit (.string (B i)), .lit (.int .i64 (Z i))] : DataW H)) ∘ Nat.succ) (List.range t.length)) = (List.range t.length).map fun i => (.agg [.lit (.string (B (i + 1))), .lit (.int .i64 (Z (i + 1)))] : DataW H) := rfl
    rw [e2]
    omega
theorem row_small {H : Type} {e : DataW H} {n : Nat} (h : (e = .nil ∧ n = 0) ∨ ∃ el sp, e = .slice el sp ∧ el.length = n) : n ≤ Rows.uptoBulk e := by
  rcases h with ⟨rfl, rfl⟩ | ⟨el, sp, rfl, rfl⟩
  · exact Nat.zero_le _
  · have := bulks.len_le el
    rw [Rows.uptoBulk]; omega
theorem msg_small {H : Type} {d : DataW H} {m : Mg} (hk : Rows.uptoBulk d ≤ 1048576) (h : MgD d m) : m.sz' ≤ 8000000 := by
  obtain ⟨e0, e1, e2, e3, e4, e5, e6, e7, e8, e9, e10, e11, e12, e13, e14, e15, rfl, h7, ⟨b, rfl, h8⟩, h12, h13, h15⟩ := h
  simp only [Rows.uptoBulk, Rows.uptoBulkAll] at hk
  rw [m.sz_eq]
  have k7 : szT (tkHs m.hs) ≤ 4 + 2 * Rows.uptoBulk e7 := by
    have e1 : szT (tkHs m.hs) = 4 + szT (tkH m.hs) := rfl
    rw [e1]
    rcases h7 with ⟨_, h7⟩ | ⟨B, Z, sp, rfl, h7⟩
    · rw [h7]; show 4 + 0 ≤ _; omega
    · have := heads_small (H := H) (Z := Z) m.hs h7
      rw [Rows.uptoBulk]; omega
  have k12 := row_small (e := e12) (n := m.ds.length) (h12.imp (fun h => ⟨h.1, by rw [h.2]; rfl⟩) id)
  have k13 := row_small (e := e13) (n := m.ps.length) (h13.imp (fun h => ⟨h.1, by rw [h.2]; rfl⟩) id)
  have k15 := row_small (e := e15) (n := m.da.length) (h15.imp (fun h => ⟨h.1, by rw [h.2]; rfl⟩) id)
  have e12 : szT (tkL m.ds) = 4 + szT (tkZ m.ds) := rfl
  have e13 : szT (tkL m.ps) = 4 + szT (tkZ m.ps) := rfl
  rw [szZ] at e12 e13
  omega
end Go.Proofs.Ytabalhhodcajmaa
