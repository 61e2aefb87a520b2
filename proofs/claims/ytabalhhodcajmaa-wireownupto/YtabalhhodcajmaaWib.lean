/- Messages in memory: rows of heads, a message as a value, a string as bytes. -/
import Derived.Lib.ConvBytes
import Derived.Test.YtabalhhodcajmaaWia
import Derived.Test.YtabalhhodcajmaaLawi
namespace Gw
open Go Go.RowKit Go.Shelf Pol
theorem InZ.far {w : World} {B p g : Nat} {A : Option Addr} {c : Nat} {z : List Int} (h : InZ w B A c z) (hp : B ≤ p) (hg : B ≤ g) : ∀ b off, A = some ⟨b, off, none⟩ → z ≠ [] → b ≠ p ∧ b ≠ g := by
  rintro b off rfl hz
  obtain ⟨x, hx⟩ : ∃ x, z[0]? = some x := by
    cases z with
    | nil => exact absurd rfl hz
    | cons x t => exact ⟨x, rfl⟩
  obtain ⟨_, b', off', e, hb, _⟩ := h.sl 0 x hx
  injection e with e; injection e with e _; subst e
  omega
theorem InZ.keep {w w' : World} {B : Nat} {A : Option Addr} {c : Nat} {z : List Int} (h : InZ w B A c z) (hk : ∀ b off, A = some ⟨b, off, none⟩ → z ≠ [] → w'.heap[b]? = w.heap[b]?) : InZ w' B A c z := ⟨fun i x hx => by
  obtain ⟨h0, b, off, h1, h2, h3⟩ := h.sl i x hx
  exact ⟨h0, b, off, h1, h2, (cell_heap (hk b off h1 (fun e => by rw [e] at hx; simp at hx))).trans h3⟩, h.cap, h.none_⟩
theorem Sl.keepA {w w' : World} {B : Nat} {A : Option Addr} {l : List Nat} (h : Sl w B A l) (hk : ∀ b off, A = some ⟨b, off, none⟩ → l ≠ [] → w'.heap[b]? = w.heap[b]?) : Sl w' B A l := fun i x hx => by
  obtain ⟨h0, b, off, h1, h2, h3⟩ := h i x hx
  exact ⟨h0, b, off, h1, h2, (cell_heap (hk b off h1 (fun e => by rw [e] at hx; simp at hx))).trans h3⟩
/-- Heads that are read. -/
structure HIn (w : World) (B : Nat) (A : Option Addr) (c : Nat) (h : List (List Nat × Int)) : Prop where
  sl : ∀ (i : Nat) (x : List Nat × Int), h[i]? = some x → BB x.1 ∧ (Lit.int .i64 x.2).wf = true ∧ ∃ b off, A = some ⟨b, off, none⟩ ∧ b < B ∧ w.cell? ⟨b, off + i * 2, none⟩ = some (.string (str x.1)) ∧ w.cell? ⟨b, off + i * 2 + 1, none⟩ = some (.int .i64 x.2)
  cap : h.length ≤ c
  none_ : A = none → c = 0
theorem HIn.keep {w w' : World} {B : Nat} {A : Option Addr} {c : Nat} {h : List (List Nat × Int)} (k : HIn w B A c h) (hk : ∀ b off, A = some ⟨b, off, none⟩ → h ≠ [] → w'.heap[b]? = w.heap[b]?) : HIn w' B A c h := ⟨fun i x hx => by
  obtain ⟨h0, h00, b, off, h1, h2, h3, h4⟩ := k.sl i x hx
  have e := hk b off h1 (fun e => by rw [e] at hx; simp at hx)
  exact ⟨h0, h00, b, off, h1, h2, (cell_heap e).trans h3, (cell_heap e).trans h4⟩, k.cap, k.none_⟩
theorem HIn.below {w w' : World} {B : Nat} {A : Option Addr} {c : Nat} {h : List (List Nat × Int)} (k : HIn w B A c h) (hb : Below B w w') : HIn w' B A c h := ⟨fun i x hx => by
  obtain ⟨h0, h00, b, off, h1, h2, h3, h4⟩ := k.sl i x hx
  exact ⟨h0, h00, b, off, h1, h2, (cell_heap (hb.block b h2)).trans h3, (cell_heap (hb.block b h2)).trans h4⟩, k.cap, k.none_⟩
theorem HIn.more {w : World} {B B' : Nat} {A : Option Addr} {c : Nat} {h : List (List Nat × Int)} (k : HIn w B A c h) (hB : B ≤ B') : HIn w B' A c h := ⟨fun i x hx => by
  obtain ⟨h0, h00, b, off, h1, h2, h3⟩ := k.sl i x hx
  exact ⟨h0, h00, b, off, h1, by omega, h3⟩, k.cap, k.none_⟩
theorem HIn.far {w : World} {B p g : Nat} {A : Option Addr} {c : Nat} {h : List (List Nat × Int)} (k : HIn w B A c h) (hp : B ≤ p) (hg : B ≤ g) : ∀ b off, A = some ⟨b, off, none⟩ → h ≠ [] → b ≠ p ∧ b ≠ g := by
  rintro b off rfl hz
  obtain ⟨x, hx⟩ : ∃ x, h[0]? = some x := by
    cases h with
    | nil => exact absurd rfl hz
    | cons x t => exact ⟨x, rfl⟩
  obtain ⟨_, _, b', off', e, hb, _⟩ := k.sl 0 x hx
  injection e with e; injection e with e _; subst e
  omega
theorem HIn.nil (w : World) (B : Nat) : HIn w B none 0 [] := ⟨fun i x h => by simp at h, Nat.le_refl _, fun _ => rfl⟩
theorem InZ.nil (w : World) (B : Nat) : InZ w B none 0 [] := ⟨fun i x h => by simp at h, Nat.le_refl _, fun _ => rfl⟩
theorem In.nil (w : World) (B : Nat) : In w B none 0 [] := ⟨Sl.nil, Nat.le_refl _, fun _ => rfl⟩

/-- Where a message's rows lie. -/
structure Ma where
  HA : Option Addr
  HN : Nat
  HC : Nat
  DA : Option Addr
  DN : Nat
  DC : Nat
  PA : Option Addr
  PN : Nat
  PC : Nat
  QA : Option Addr
  QN : Nat
  QC : Nat
/-- A message as one value. -/
abbrev mval (m : Mg) (a : Ma) : Value := .agg #[.int .i64 m.kd, .int .i64 m.fr, .int .i64 m.to, .int .i64 m.se, .int .i64 m.de, .int .i64 m.cm, .int .i64 m.ep, .slice a.HA a.HN a.HC, .string (str m.id), .int .i64 m.sz, .int .i64 m.so, .int .i64 m.ta, .slice a.DA a.DN a.DC, .slice a.PA a.PN a.PC, .int .i64 m.co, .slice a.QA a.QN a.QC]
def Mg.ints (m : Mg) : List Int := [m.kd, m.fr, m.to, m.se, m.de, m.cm, m.ep, m.sz, m.so, m.ta, m.co]
structure MgIn (w : World) (B : Nat) (m : Mg) (a : Ma) : Prop where
  hs : HIn w B a.HA a.HC m.hs
  hn : a.HN = m.hs.length
  id : BB m.id
  ds : InZ w B a.DA a.DC m.ds
  dn : a.DN = m.ds.length
  ps : InZ w B a.PA a.PC m.ps
  pn : a.PN = m.ps.length
  da : In w B a.QA a.QC m.da
  qn : a.QN = m.da.length
  wf : ∀ x ∈ m.ints, (Lit.int .i64 x).wf = true
theorem MgIn.below {w w' : World} {B : Nat} {m : Mg} {a : Ma} (h : MgIn w B m a) (hb : Below B w w') : MgIn w' B m a := ⟨h.hs.below hb, h.hn, h.id, h.ds.below hb, h.dn, h.ps.below hb, h.pn, h.da.below hb, h.qn, h.wf⟩
theorem MgIn.more {w : World} {B B' : Nat} {m : Mg} {a : Ma} (h : MgIn w B m a) (hB : B ≤ B') : MgIn w B' m a := ⟨h.hs.more hB, h.hn, h.id, h.ds.more hB, h.dn, h.ps.more hB, h.pn, h.da.more hB, h.qn, h.wf⟩
/-- Its rows lie from that block on. -/
def FromB (base : Nat) (A : Option Addr) : Prop := ∀ b off, A = some ⟨b, off, none⟩ → base ≤ b
structure MgFar (base : Nat) (m : Mg) (a : Ma) : Prop where
  hs : m.hs ≠ [] → FromB base a.HA
  ds : m.ds ≠ [] → FromB base a.DA
  ps : m.ps ≠ [] → FromB base a.PA
  da : m.da ≠ [] → FromB base a.QA
theorem MgIn.keep {w w' : World} {B base : Nat} {m : Mg} {a : Ma} (h : MgIn w B m a) (hf : MgFar base m a) (hk : ∀ b, base ≤ b → b < B → w'.heap[b]? = w.heap[b]?) : MgIn w' B m a := by
  refine ⟨⟨fun i x hx => ?_, h.hs.cap, h.hs.none_⟩, h.hn, h.id, ⟨fun i x hx => ?_, h.ds.cap, h.ds.none_⟩, h.dn, ⟨fun i x hx => ?_, h.ps.cap, h.ps.none_⟩, h.pn, ⟨fun i x hx => ?_, h.da.cap, h.da.none_⟩, h.qn, h.wf⟩
  · obtain ⟨h0, h00, b, off, h1, h2, h3, h4⟩ := h.hs.sl i x hx
    have e := hk b (hf.hs (fun e => by rw [e] at hx; simp at hx) b off h1) h2
    exact ⟨h0, h00, b, off, h1, h2, (cell_heap e).trans h3, (cell_heap e).trans h4⟩
  · obtain ⟨h0, b, off, h1, h2, h3⟩ := h.ds.sl i x hx
    have e := hk b (hf.ds (fun e => by rw [e] at hx; simp at hx) b off h1) h2
    exact ⟨h0, b, off, h1, h2, (cell_heap e).trans h3⟩
  · obtain ⟨h0, b, off, h1, h2, h3⟩ := h.ps.sl i x hx
    have e := hk b (hf.ps (fun e => by rw [e] at hx; simp at hx) b off h1) h2
    exact ⟨h0, b, off, h1, h2, (cell_heap e).trans h3⟩
  · obtain ⟨h0, b, off, h1, h2, h3⟩ := h.da.sl i x hx
    have e := hk b (hf.da (fun e => by rw [e] at hx; simp at hx) b off h1) h2
    exact ⟨h0, b, off, h1, h2, (cell_heap e).trans h3⟩
def Ma.none : Ma := ⟨.none, 0, 0, .none, 0, 0, .none, 0, 0, .none, 0, 0⟩
theorem MgIn.none (w : World) (B : Nat) : MgIn w B Mg.none Ma.none := ⟨HIn.nil w B, rfl, Pol.BB.nil, InZ.nil w B, rfl, InZ.nil w B, rfl, In.nil w B, rfl, fun x hx => by simp [Mg.ints, Mg.none] at hx; subst hx; rfl⟩
theorem MgFar.none (base : Nat) : MgFar base Mg.none Ma.none := ⟨fun h => absurd rfl h, fun h => absurd rfl h, fun h => absurd rfl h, fun h => absurd rfl h⟩

theorem wf_int {n : Int} (h0 : -9223372036854775808 ≤ n) (h1 : n ≤ 9223372036854775807) : (Lit.int .i64 n).wf = true := by
  simp [Lit.wf, IntKind.min, IntKind.signed, IntKind.bits]
  omega
/-! Parts, one list of them behind another. -/
def accP (f : Nat → List Tk) : Nat → List Tk
  | 0 => []
  | k + 1 => accP f k ++ f k
theorem accP_le (f : Nat → List Tk) {k j : Nat} (h : k ≤ j) : szT (accP f k) ≤ szT (accP f j) := by
  induction j with
  | zero => obtain rfl : k = 0 := by omega
            exact Nat.le_refl _
  | succ j ih =>
    by_cases e : k = j + 1
    · subst e; exact Nat.le_refl _
    · have := ih (by omega)
      rw [accP, szT_app]; omega
theorem accP_step (f : Nat → List Tk) (k : Nat) : szT (accP f (k + 1)) = szT (accP f k) + szT (f k) := by rw [accP, szT_app]
/-- A row of ints that has just been laid. -/
theorem InZ.lit (w : World) (e : TypeId) (z : List Int) (hw : ∀ x ∈ z, (Lit.int .i64 x).wf = true) : InZ (w.alloc (.cells (z.map (fun x => Value.int .i64 x)).toArray e)) (w.heap.size + 1) (some ⟨w.heap.size, 0, none⟩) z.length z := ⟨fun i x hx =>
  ⟨hw x (List.mem_of_getElem? hx), w.heap.size, 0, rfl, by omega, by rw [Nat.zero_add, World.cell?_alloc_new, List.getElem?_toArray, List.getElem?_map, hx]; rfl⟩, Nat.le_refl _, fun h => by cases h⟩
/-- A message's cells, as they lie in a box. -/
def mcs (m : Mg) (a : Ma) : List Value := [.int .i64 m.kd, .int .i64 m.fr, .int .i64 m.to, .int .i64 m.se, .int .i64 m.de, .int .i64 m.cm, .int .i64 m.ep, .slice a.HA a.HN a.HC, .string (str m.id), .int .i64 m.sz, .int .i64 m.so, .int .i64 m.ta, .slice a.DA a.DN a.DC, .slice a.PA a.PN a.PC, .int .i64 m.co, .slice a.QA a.QN a.QC]
def MBox (w : World) (q : Nat) (m : Mg) (a : Ma) : Prop := ∀ (k : Nat) (v : Value), (mcs m a)[k]? = some v → w.cell? ⟨q, k, none⟩ = some v
theorem MBox.new (w : World) (m : Mg) (a : Ma) (t : TypeId) : MBox (w.alloc (.cells (mcs m a).toArray t)) w.heap.size m a := fun k v h => by
  rw [World.cell?_alloc_new, List.getElem?_toArray]; exact h
theorem MBox.keep {w w' : World} {q : Nat} {m : Mg} {a : Ma} (h : MBox w q m a) (hk : w'.heap[q]? = w.heap[q]?) : MBox w' q m a := fun k v hv => (cell_heap hk).trans (h k v hv)
theorem MBox.lt {w : World} {q : Nat} {m : Mg} {a : Ma} (h : MBox w q m a) : q < w.heap.size := cell_lt (h 0 _ rfl)

/-! A string as bytes. -/
theorem str_sz (l : List Nat) : (str l).size = l.length := by
  show (str l).data.size = l.length
  simp [str, strOfNums, nums]
theorem str_get {l : List Nat} (h : BB l) {j x : Nat} (hx : l[j]? = some x) : ((str l).data.toList.getD j 0).toNat = x := by
  have hj := (List.getElem?_eq_some_iff.1 hx).1
  have e : (str l).data.toList = (nums l).map fun n => UInt8.ofNat n.toNat := strOfNums_data _
  rw [e, List.getD_eq_getElem?_getD, List.getElem?_map, nums, List.getElem?_map, hx]
  have := h x (List.mem_of_getElem? hx)
  show (UInt8.ofNat ((x : Int)).toNat).toNat = x
  rw [Int.toNat_natCast, UInt8.toNat_ofNat_of_lt' (by omega)]
theorem conv_str {P : Program} {src dst e : TypeId} {u : TypeDesc} (hs : P.underlying src = some u) (hd : P.underlying dst = some (.slice e)) (he : P.underlying e = some (.int .u8)) (w : World) {l : List Nat} (hb : BB l) (n : Nat) (hn : n = l.length) :
    ∃ c w1, (convert src dst (.string (str l))).run P w = .ok (.slice (some ⟨w.heap.size, 0, none⟩) n c) w1 ∧ Below w.heap.size w w1 ∧ w1.heap.size = w.heap.size + 1 ∧ In w1 w1.heap.size (some ⟨w.heap.size, 0, none⟩) c l := by
  subst hn
  refine ⟨_, _, by rw [Lib.run_convert_string_bytes (P := P) w src dst e (str l) hs hd he, str_sz], ?_, Lib.bytesWorld_size w e (str l), ⟨fun i x hx => ?_, ?_, fun h => by cases h⟩⟩
  · exact ⟨rfl, rfl, rfl, by rw [Lib.bytesWorld_size]; omega, fun k hk => Lib.bytesWorld_at_old w e (str l) k hk⟩
  · refine ⟨hb x (List.mem_of_getElem? hx), w.heap.size, 0, rfl, by rw [Lib.bytesWorld_size]; omega, ?_⟩
    have hj := (List.getElem?_eq_some_iff.1 hx).1
    rw [Nat.zero_add, Lib.bytesWorld_cell w e (str l) i (by rw [str_sz]; exact hj), str_get hb hx]
  · rw [← str_sz l]; exact grownCap_ge _ _ _ _
end Gw
