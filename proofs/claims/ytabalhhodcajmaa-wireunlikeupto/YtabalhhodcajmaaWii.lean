/- What wire's Decode does: a message that is read. -/
import Derived.Laws.ResultCell
import Derived.Deep.MidRow
import Derived.Test.YtabalhhodcajmaaWih
namespace Go
/-- Two results, the first in a box of many cells. -/
theorem results_ct {P : Program} {fn : Func} {p u : Tmp} {t : TypeId} (h : fn.results = #[.cell p t, .tmp u]) (tmps : Array Value) (w : World) {b o : Nat} {cs : List Value} {d : TypeDesc} (h2 : tmps.getD p undef = .pointer (some ⟨b, o, none⟩)) (hc : w.rangeAt b o cs)
    (hu : P.underlying t = some d) (hd : d.isRow = true) (hi : (P.info? t).map (·.size) = some cs.length) : (results fn tmps).run P w = .ok (.tuple #[.agg cs.toArray, tmps.getD u undef]) w := by
  rw [results_cell_tmp h, h2]
  have hA : (asAddr (.pointer (some ⟨b, o, none⟩))).run P w = .ok ⟨b, o, none⟩ w := rfl
  rw [hA, Result.andThen_ok, run_loadVar_mid w b o t cs d hc hu hd hi, Result.andThen_ok]
end Go
namespace Gw
open Go Go.RowKit Go.Shelf Pol
theorem MBox.range {w : World} {q : Nat} {m : Mg} {a : Ma} (h : MBox w q m a) : w.rangeAt q 0 (mcs m a) := fun j v hv => by rw [Nat.zero_add]; exact h j v hv
theorem MBox.of {w : World} {q : Nat} {m : Mg} {a : Ma} (h : w.rangeAt q 0 (mcs m a)) : MBox w q m a := fun j v hv => by have := h j v hv; rw [Nat.zero_add] at this; exact this
theorem MBox.there {w : World} {q : Nat} {m : Mg} {a : Ma} (h : MBox w q m a) (hf : ∀ j, w.frozen? ⟨q, j, none⟩ = false) : w.there q 0 16 := fun j hj => by
  rw [Nat.zero_add]
  obtain ⟨v, hv⟩ : ∃ v, (mcs m a)[j]? = some v := ⟨_, List.getElem?_eq_getElem (by simpa [mcs] using hj)⟩
  exact ⟨by rw [h j v hv]; rfl, hf j⟩
end Gw
namespace Go.Proofs.Ytabalhhodcajmaa
open Go.RowKit Go.Shelf Gw Pol
/-- While Decode reads: the world at which it began, the state of what is left. -/
def DwSt (base : Nat) (wR : World) (p q g t : Nat) (s : St) (w : World) : Prop :=
  ∃ g' : Nat, (g' = g ∨ g' = p) ∧ Rds base w p q g' t s ∧ K2 wR w p q
def HdT (B n : Nat) (hs : List (List Nat × Int)) : Value → World → Prop := fun v w => ∃ y, v = .slice (some ⟨y, 0, none⟩) n n ∧ Hz w y n hs ∧ B ≤ y
def IzT (B n : Nat) (zs : List Int) : Value → World → Prop := fun v w => ∃ y, v = .slice (some ⟨y, 0, none⟩) n n ∧ Iz w y n zs ∧ B ≤ y
def DaOk (base B p q n : Nat) (da : List Nat) (A : Option Addr) (w : World) : Prop := SlA w p q A da ∧ (A = none → n = 0) ∧ (da ≠ [] → ∃ b off, A = some ⟨b, off, none⟩ ∧ base ≤ b ∧ b < B)
def DaT (base B p q n : Nat) (da : List Nat) : Value → World → Prop := fun v w => ∃ A, v = .slice A n n ∧ DaOk base B p q n da A w
def NwT (B : Nat) : Value → World → Prop := fun v w => ∃ z, v = .pointer (some ⟨z, 0, none⟩) ∧ MBox w z Mg.none Ma.none ∧ (∀ j, w.frozen? ⟨z, j, none⟩ = false) ∧ B ≤ z
/-- The message, as it was put together. -/
def MdT (base B p q nH nD nP nQ : Nat) (M : Mg) (S : ByteArray) : Value → World → Prop := fun v w => ∃ yH yD yP QA, v = .agg #[.int .i64 M.kd, .int .i64 M.fr, .int .i64 M.to, .int .i64 M.se, .int .i64 M.de, .int .i64 M.cm, .int .i64 M.ep, .slice (some ⟨yH, 0, none⟩) nH nH, .string S, .int .i64 M.sz, .int .i64 M.so, .int .i64 M.ta, .slice (some ⟨yD, 0, none⟩) nD nD, .slice (some ⟨yP, 0, none⟩) nP nP, .int .i64 M.co, .slice QA nQ nQ] ∧ Hz w yH nH M.hs ∧ B ≤ yH ∧ Iz w yD nD M.ds ∧ B ≤ yD ∧ Iz w yP nP M.ps ∧ B ≤ yP ∧ DaOk base B p q nQ M.da QA w
section
variable {base B p q n : Nat}
theorem HdT.firm (hp : p < B) (hq : q < B) {hs : List (List Nat × Int)} : ∀ v w w', HdT B n hs v w → K2 w w' p q → HdT B n hs v w' := by
  rintro v w w' ⟨y, h1, h2, h3⟩ hk
  exact ⟨y, h1, h2.keep (hk.block y h2.lt (by omega) (by omega)) hk.size, h3⟩
theorem IzT.firm (hp : p < B) (hq : q < B) {zs : List Int} : ∀ v w w', IzT B n zs v w → K2 w w' p q → IzT B n zs v w' := by
  rintro v w w' ⟨y, h1, h2, h3⟩ hk
  exact ⟨y, h1, h2.keep (hk.block y h2.lt (by omega) (by omega)) hk.size, h3⟩
theorem DaOk.firm {da : List Nat} {A : Option Addr} {w w' : World} (h : DaOk base B p q n da A w) (hk : K2 w w' p q) : DaOk base B p q n da A w' := ⟨h.1.k2 hk (.inl rfl), h.2⟩
theorem DaT.firm {da : List Nat} : ∀ v w w', DaT base B p q n da v w → K2 w w' p q → DaT base B p q n da v w' := by
  rintro v w w' ⟨A, h1, h2⟩ hk
  exact ⟨A, h1, h2.firm hk⟩
theorem NwT.firm (hp : p < B) (hq : q < B) : ∀ v w w', NwT B v w → K2 w w' p q → NwT B v w' := by
  rintro v w w' ⟨z, h1, h2, h3, h4⟩ hk
  have e := hk.block z h2.lt (by omega) (by omega)
  exact ⟨z, h1, h2.keep e, fun j => (frozen_heap e).trans (h3 j), h4⟩
theorem MdT.firm (hp : p < B) (hq : q < B) {nH nD nP nQ : Nat} {M : Mg} {S : ByteArray} : ∀ v w w', MdT base B p q nH nD nP nQ M S v w → K2 w w' p q → MdT base B p q nH nD nP nQ M S v w' := by
  rintro v w w' ⟨yH, yD, yP, QA, h1, h2, h3, h4, h5, h6, h7, h8⟩ hk
  exact ⟨yH, yD, yP, QA, h1, h2.keep (hk.block _ h2.lt (by omega) (by omega)) hk.size, h3, h4.keep (hk.block _ h4.lt (by omega) (by omega)) hk.size, h5, h6.keep (hk.block _ h6.lt (by omega) (by omega)) hk.size, h7, h8.firm hk⟩
end
/-- A row of ints that was made is no message's box. -/
theorem iz_ne {w : World} {y n z : Nat} {zs : List Int} (h : Iz w y n zs) (hn : n = zs.length) (hz : MBox w z Mg.none Ma.none) : y ≠ z := by
  rintro rfl
  by_cases h16 : n < 16
  · obtain ⟨v, hv⟩ : ∃ v, (mcs Mg.none Ma.none)[n]? = some v := ⟨_, List.getElem?_eq_getElem (by simpa [mcs] using h16)⟩
    have := hz n v hv
    rw [h.stop] at this; cases this
  · have h7 := hz 7 _ rfl
    rw [h.told 7 _ (List.getElem?_eq_getElem (by omega))] at h7
    injection h7 with h7; cases h7
theorem hz_ne {w : World} {y n z : Nat} {zs : List (List Nat × Int)} (h : Hz w y n zs) (hn : zs ≠ []) (hz : MBox w z Mg.none Ma.none) : y ≠ z := by
  rintro rfl
  obtain ⟨x, hx⟩ : ∃ x, zs[0]? = some x := by
    cases zs with
    | nil => exact absurd rfl hn
    | cons x t => exact ⟨x, rfl⟩
  have h0 := hz 0 _ rfl
  have h1 := (h.told 0 x hx).1
  rw [Nat.zero_mul] at h1
  rw [h1] at h0
  injection h0 with h0; cases h0
/-- What Decode answers. -/
def DecAns (l : List Nat) (w : World) (e : Ending) (w' : World) : Prop :=
  Below w.heap.size w w' ∧ ∃ a, e = .returned (.tuple #[mval (dec l).1 a, .bool (dec l).2]) ∧ MgIn w' w'.heap.size (dec l).1 a ∧ MgFar w.heap.size (dec l).1 a
/-- How Decode ends: the message that lies in the box of its result. -/
structure DecEnd (l : List Nat) (w : World) (m : Mg) (a : Ma) (ok : Bool) (W : World) : Prop where
  bel : Below w.heap.size w W
  dec : dec l = (m, ok)
  box : MBox W w.heap.size m a
  mg : MgIn W W.heap.size m a
  far : MgFar w.heap.size m a
theorem DecEnd.ans {l : List Nat} {w : World} {m : Mg} {a : Ma} {ok : Bool} {W : World} (h : DecEnd l w m a ok W) : DecAns l w (.returned (.tuple #[.agg (mcs m a).toArray, .bool ok])) W :=
  ⟨h.bel, a, by rw [h.dec]; rfl, by rw [h.dec]; exact h.mg, by rw [h.dec]; exact h.far⟩
theorem gZ_wf : ∀ (n : Nat) (s : St), BB s.l → ∀ x ∈ (gZ n s).1, (Lit.int .i64 x).wf = true
  | 0, _, _ => fun x hx => by cases hx
  | n + 1, s, h => fun x hx => by
    rw [gZ] at hx
    rcases List.mem_cons.1 hx with rfl | hx
    · have := gN_wf s h
      exact wf_int (by omega) (by omega)
    · exact gZ_wf n _ (gN_bb h) x hx
theorem gH_wf : ∀ (n : Nat) (s : St), BB s.l → ∀ x ∈ (gH n s).1, (Lit.int .i64 x.2).wf = true
  | 0, _, _ => fun x hx => by cases hx
  | n + 1, s, h => fun x hx => by
    rw [gH] at hx
    rcases List.mem_cons.1 hx with rfl | hx
    · have := gN_wf (gL s).2 (gL_bb h)
      exact wf_int (by show _ ≤ (gN (gL s).2).1; omega) (by show (gN (gL s).2).1 ≤ _; omega)
    · exact gH_wf n _ (gN_bb (gL_bb h)) x hx
theorem gN_lit (s : St) (h : BB s.l) : (Lit.int .i64 (gN s).1).wf = true := by
  have := gN_wf s h
  exact wf_int (by omega) (by omega)
/-- What is read of bytes can be: its numbers, its names. -/
structure MOk (M : Mg) : Prop where
  ints : ∀ x ∈ M.ints, (Lit.int .i64 x).wf = true
  hs : ∀ x ∈ M.hs, BB x.1 ∧ (Lit.int .i64 x.2).wf = true
  id : BB M.id
  ds : ∀ x ∈ M.ds, (Lit.int .i64 x).wf = true
  ps : ∀ x ∈ M.ps, (Lit.int .i64 x).wf = true
theorem gHs_wf (t : Nat) (s : St) (h : BB s.l) : ∀ x ∈ (gHs t s).1, BB x.1 ∧ (Lit.int .i64 x.2).wf = true := by
  unfold gHs
  exact fun x hx => ⟨(gH_bb _ _ (gC_bb h)).2 x hx, gH_wf _ _ (gC_bb h) x hx⟩
theorem gZs_wf (t : Nat) (s : St) (h : BB s.l) : ∀ x ∈ (gZs t s).1, (Lit.int .i64 x).wf = true := by
  unfold gZs
  exact fun x hx => gZ_wf _ _ (gC_bb h) x hx
theorem rdM_hs (t : Nat) (l : List Nat) : (rdM t l).hs = (gHs t (q7 t l)).1 := by simp only [rdM]
theorem rdM_ds (t : Nat) (l : List Nat) : (rdM t l).ds = (gZs t (q12 t l)).1 := by simp only [rdM]
theorem rdM_ps (t : Nat) (l : List Nat) : (rdM t l).ps = (gZs t (q13 t l)).1 := by simp only [rdM]
theorem rdM_id (t : Nat) (l : List Nat) : (rdM t l).id = (gL (q8 t l)).1 := by simp only [rdM]
theorem rdM_kd (t : Nat) (l : List Nat) : (rdM t l).kd = (gN (q0 t l)).1 := by simp only [rdM]
theorem rdM_fr (t : Nat) (l : List Nat) : (rdM t l).fr = (gN (q1 t l)).1 := by simp only [rdM]
theorem rdM_to (t : Nat) (l : List Nat) : (rdM t l).to = (gN (q2 t l)).1 := by simp only [rdM]
theorem rdM_se (t : Nat) (l : List Nat) : (rdM t l).se = (gN (q3 t l)).1 := by simp only [rdM]
theorem rdM_de (t : Nat) (l : List Nat) : (rdM t l).de = (gN (q4 t l)).1 := by simp only [rdM]
theorem rdM_cm (t : Nat) (l : List Nat) : (rdM t l).cm = (gN (q5 t l)).1 := by simp only [rdM]
theorem rdM_ep (t : Nat) (l : List Nat) : (rdM t l).ep = (gN (q6 t l)).1 := by simp only [rdM]
theorem rdM_sz (t : Nat) (l : List Nat) : (rdM t l).sz = (gN (q9 t l)).1 := by simp only [rdM]
theorem rdM_so (t : Nat) (l : List Nat) : (rdM t l).so = (gN (q10 t l)).1 := by simp only [rdM]
theorem rdM_ta (t : Nat) (l : List Nat) : (rdM t l).ta = (gN (q11 t l)).1 := by simp only [rdM]
theorem rdM_co (t : Nat) (l : List Nat) : (rdM t l).co = (gN (q14 t l)).1 := by simp only [rdM]
theorem rdM_da (t : Nat) (l : List Nat) : (rdM t l).da = (gL (q15 t l)).1 := by simp only [rdM]
theorem rdM_ints (t : Nat) (l : List Nat) : (rdM t l).ints = [(gN (q0 t l)).1, (gN (q1 t l)).1, (gN (q2 t l)).1, (gN (q3 t l)).1, (gN (q4 t l)).1, (gN (q5 t l)).1, (gN (q6 t l)).1, (gN (q9 t l)).1, (gN (q10 t l)).1, (gN (q11 t l)).1, (gN (q14 t l)).1] := by simp only [Mg.ints, rdM]
theorem rdM_ok (t : Nat) {l : List Nat} (h : BB l) : MOk (rdM t l) := by
  refine ⟨?_, ?_, ?_, ?_, ?_⟩
  · rw [rdM_ints]
    exact (List.forall_mem_cons.2 ⟨gN_lit _ (q0_bb t h), (List.forall_mem_cons.2 ⟨gN_lit _ (q1_bb t h), (List.forall_mem_cons.2 ⟨gN_lit _ (q2_bb t h), (List.forall_mem_cons.2 ⟨gN_lit _ (q3_bb t h), (List.forall_mem_cons.2 ⟨gN_lit _ (q4_bb t h), (List.forall_mem_cons.2 ⟨gN_lit _ (q5_bb t h), (List.forall_mem_cons.2 ⟨gN_lit _ (q6_bb t h), (List.forall_mem_cons.2 ⟨gN_lit _ (q9_bb t h), (List.forall_mem_cons.2 ⟨gN_lit _ (q10_bb t h), (List.forall_mem_cons.2 ⟨gN_lit _ (q11_bb t h), (List.forall_mem_cons.2 ⟨gN_lit _ (q14_bb t h), (fun x hx => by cases hx)⟩)⟩)⟩)⟩)⟩)⟩)⟩)⟩)⟩)⟩)⟩)
  · rw [rdM_hs]; exact gHs_wf t _ (q7_bb t h)
  · rw [rdM_id]; exact gL_bb' (q8_bb t h)
  · rw [rdM_ds]; exact gZs_wf t _ (q12_bb t h)
  · rw [rdM_ps]; exact gZs_wf t _ (q13_bb t h)
def qs (t : Nat) (l : List Nat) : Nat → St
  | 0 => q0 t l
  | 1 => q1 t l
  | 2 => q2 t l
  | 3 => q3 t l
  | 4 => q4 t l
  | 5 => q5 t l
  | 6 => q6 t l
  | 7 => q7 t l
  | 8 => q8 t l
  | 9 => q9 t l
  | 10 => q10 t l
  | 11 => q11 t l
  | 12 => q12 t l
  | 13 => q13 t l
  | 14 => q14 t l
  | 15 => q15 t l
  | _ => q16 t l
theorem qv0 (t : Nat) (l : List Nat) : qs t l 0 = q0 t l := rfl
theorem qv1 (t : Nat) (l : List Nat) : qs t l 1 = q1 t l := rfl
theorem qv2 (t : Nat) (l : List Nat) : qs t l 2 = q2 t l := rfl
theorem qv3 (t : Nat) (l : List Nat) : qs t l 3 = q3 t l := rfl
theorem qv4 (t : Nat) (l : List Nat) : qs t l 4 = q4 t l := rfl
theorem qv5 (t : Nat) (l : List Nat) : qs t l 5 = q5 t l := rfl
theorem qv6 (t : Nat) (l : List Nat) : qs t l 6 = q6 t l := rfl
theorem qv7 (t : Nat) (l : List Nat) : qs t l 7 = q7 t l := rfl
theorem qv8 (t : Nat) (l : List Nat) : qs t l 8 = q8 t l := rfl
theorem qv9 (t : Nat) (l : List Nat) : qs t l 9 = q9 t l := rfl
theorem qv10 (t : Nat) (l : List Nat) : qs t l 10 = q10 t l := rfl
theorem qv11 (t : Nat) (l : List Nat) : qs t l 11 = q11 t l := rfl
theorem qv12 (t : Nat) (l : List Nat) : qs t l 12 = q12 t l := rfl
theorem qv13 (t : Nat) (l : List Nat) : qs t l 13 = q13 t l := rfl
theorem qv14 (t : Nat) (l : List Nat) : qs t l 14 = q14 t l := rfl
theorem qv15 (t : Nat) (l : List Nat) : qs t l 15 = q15 t l := rfl
theorem qv16 (t : Nat) (l : List Nat) : qs t l 16 = q16 t l := rfl
theorem qs1 (t : Nat) (l : List Nat) : qs t l 1 = (gN (q0 t l)).2 := rfl
theorem qs2 (t : Nat) (l : List Nat) : qs t l 2 = (gN (q1 t l)).2 := rfl
theorem qs3 (t : Nat) (l : List Nat) : qs t l 3 = (gN (q2 t l)).2 := rfl
theorem qs4 (t : Nat) (l : List Nat) : qs t l 4 = (gN (q3 t l)).2 := rfl
theorem qs5 (t : Nat) (l : List Nat) : qs t l 5 = (gN (q4 t l)).2 := rfl
theorem qs6 (t : Nat) (l : List Nat) : qs t l 6 = (gN (q5 t l)).2 := rfl
theorem qs7 (t : Nat) (l : List Nat) : qs t l 7 = (gN (q6 t l)).2 := rfl
theorem qs8 (t : Nat) (l : List Nat) : qs t l 8 = (gHs t (q7 t l)).2 := rfl
theorem qs9 (t : Nat) (l : List Nat) : qs t l 9 = (gL (q8 t l)).2 := rfl
theorem qs10 (t : Nat) (l : List Nat) : qs t l 10 = (gN (q9 t l)).2 := rfl
theorem qs11 (t : Nat) (l : List Nat) : qs t l 11 = (gN (q10 t l)).2 := rfl
theorem qs12 (t : Nat) (l : List Nat) : qs t l 12 = (gN (q11 t l)).2 := rfl
theorem qs13 (t : Nat) (l : List Nat) : qs t l 13 = (gZs t (q12 t l)).2 := rfl
theorem qs14 (t : Nat) (l : List Nat) : qs t l 14 = (gZs t (q13 t l)).2 := rfl
theorem qs15 (t : Nat) (l : List Nat) : qs t l 15 = (gN (q14 t l)).2 := rfl
theorem qs16 (t : Nat) (l : List Nat) : qs t l 16 = (gL (q15 t l)).2 := rfl
/-- The message in memory, some blocks having turned that are not its own. -/
theorem md_mem {base B p q nH nD nP nQ z : Nat} {M : Mg} {w5 W : World} {yH yD yP : Nat} {QA : Option Addr} (ok : MOk M) (eH : nH = M.hs.length) (eD : nD = M.ds.length) (eP : nP = M.ps.length) (eQ : nQ = M.da.length) (hB : base ≤ B)
    (h2 : Hz w5 yH nH M.hs) (h3 : B ≤ yH) (h4 : Iz w5 yD nD M.ds) (h5 : B ≤ yD) (h6 : Iz w5 yP nP M.ps) (h7 : B ≤ yP) (h8 : DaOk base B p q nQ M.da QA w5) (hz : MBox w5 z Mg.none Ma.none) (hzB : B ≤ z)
    (hk : ∀ b, base ≤ b → b < w5.heap.size → b ≠ z → W.heap[b]? = w5.heap[b]?) (hs : w5.heap.size ≤ W.heap.size) :
    MgIn W W.heap.size M ⟨some ⟨yH, 0, none⟩, nH, nH, some ⟨yD, 0, none⟩, nD, nD, some ⟨yP, 0, none⟩, nP, nP, QA, nQ, nQ⟩ ∧ MgFar base M ⟨some ⟨yH, 0, none⟩, nH, nH, some ⟨yD, 0, none⟩, nD, nD, some ⟨yP, 0, none⟩, nP, nP, QA, nQ, nQ⟩ := by
  have kH : M.hs ≠ [] → W.heap[yH]? = w5.heap[yH]? := fun h => hk _ (by omega) h2.lt (hz_ne h2 h hz)
  have kD : W.heap[yD]? = w5.heap[yD]? := hk _ (by omega) h4.lt (iz_ne h4 eD hz)
  have kP : W.heap[yP]? = w5.heap[yP]? := hk _ (by omega) h6.lt (iz_ne h6 eP hz)
  refine ⟨⟨⟨fun i x hx => ?_, by show M.hs.length ≤ nH; omega, fun h => by cases h⟩, eH, ok.id, ⟨fun i x hx => ?_, by show M.ds.length ≤ nD; omega, fun h => by cases h⟩, eD, ⟨fun i x hx => ?_, by show M.ps.length ≤ nP; omega, fun h => by cases h⟩, eP, ⟨fun i x hx => ?_, by show M.da.length ≤ nQ; omega, h8.2.1⟩, eQ, ok.ints⟩, ⟨fun _ b off h => ?_, fun _ b off h => ?_, fun _ b off h => ?_, fun hne b off h => ?_⟩⟩
  · have hne : M.hs ≠ [] := fun e => by rw [e] at hx; simp at hx
    have h9 := ok.hs x (List.mem_of_getElem? hx)
    have h10 := h2.told i x hx
    have := h2.lt
    exact ⟨h9.1, h9.2, yH, 0, rfl, by omega, by rw [Nat.zero_add]; exact (cell_heap (kH hne)).trans h10.1, by rw [Nat.zero_add]; exact (cell_heap (kH hne)).trans h10.2⟩
  · have := h4.lt
    exact ⟨ok.ds x (List.mem_of_getElem? hx), yD, 0, rfl, by omega, by rw [Nat.zero_add]; exact (cell_heap kD).trans (h4.told i x hx)⟩
  · have := h6.lt
    exact ⟨ok.ps x (List.mem_of_getElem? hx), yP, 0, rfl, by omega, by rw [Nat.zero_add]; exact (cell_heap kP).trans (h6.told i x hx)⟩
  · obtain ⟨k1, b, off, k2, k3, k4, k5⟩ := h8.1 i x hx
    obtain ⟨b', off', k6, k7, k8⟩ := h8.2.2 (fun e => by rw [e] at hx; simp at hx)
    rw [k2] at k6
    injection k6 with k6; injection k6 with k6 _; subst k6
    exact ⟨k1, b, off, k2, by omega, (cell_heap (hk b k7 k4 (by omega))).trans k5⟩
  · injection h with h; injection h with h _; omega
  · injection h with h; injection h with h _; omega
  · injection h with h; injection h with h _; omega
  · obtain ⟨b', off', k6, k7, k8⟩ := h8.2.2 hne
    have h' : QA = some ⟨b, off, none⟩ := h
    rw [h'] at k6
    injection k6 with k6; injection k6 with k6 _; omega
theorem msg_size : (Try.prog.info? 27).map (·.size) = some 16 := by kernel_rfl
theorem str_nil13 : str [] = { data := #[] } := by decide +kernel
end Go.Proofs.Ytabalhhodcajmaa
