import Derived.Maps.AppendAt
import Derived.Laws.Rows
import Derived.Deep.RegionLaw
import Derived.StillTailTactics
import Derived.Test.YtgikgnhpplmljaaProg
import Derived.Test.YtgikgnhpplmljaaJ1
import Derived.Test.YtgikgnhpplmljaaJ3
import Derived.Test.YtgikgnhpplmljaaJ4
section
/- A table of rows of the call's own: rows of any lengths, each in a block of its own; the rows' slices lie in block g. -/
namespace Gw
open Go Go.RowKit Go.Shelf
theorem Own.block {W W2 : World} {base c : Nat} {e : TypeId} {A : Option Addr} {l : List Nat} (h : Own W base e A c l) (hb : ∀ b o, A = some ⟨b, o, none⟩ → W2.heap[b]? = W.heap[b]?) : Own W2 base e A c l := by
  refine ⟨⟨h.1.1, ?_⟩, h.2⟩
  rcases h.1.2 with h0 | ⟨g, cap, cur, hv, hg, hgb, h0⟩
  · exact .inl h0
  · injection hv with hA hn hc
    exact .inr ⟨g, cap, cur, by rw [hA, hc], hg, (hb g 0 hA).trans hgb, h0⟩
theorem Own.other {w : World} {base c g k : Nat} {e : TypeId} {A : Option Addr} {l : List Nat} (h : Own w base e A c l) (hne : ∀ o, A ≠ some ⟨g, o, none⟩) (v : Value) : Own (w.setCell ⟨g, k, none⟩ v) base e A c l :=
  h.block fun b o e => Below.heap_setCell _ _ _ _ (fun e2 => hne o (by rw [e]; exact congrArg (fun b => some (Addr.mk b o none)) e2))
structure Otb (W : World) (base : Nat) (tb : TypeId) (g R : Nat) (pa : Nat → Option Addr) (cp : Nat → Nat) (l : Nat → List Nat) : Prop where
  out : Row W g R (fun i => .slice (pa i) (l i).length (cp i))
  row : ∀ i, i < R → Own W base tb (pa i) (cp i) (l i)
  dis : ∀ i j, i < R → j < R → i ≠ j → ∀ b o o', pa i = some ⟨b, o, none⟩ → pa j ≠ some ⟨b, o', none⟩
  ne : ∀ i, i < R → ∀ o, pa i ≠ some ⟨g, o, none⟩
  glo : base ≤ g ∧ g < W.heap.size
def upd {α : Type} (f : Nat → α) (i : Nat) (x : α) : Nat → α := fun j => if j = i then x else f j
theorem upd_same {α : Type} (f : Nat → α) (i : Nat) (x : α) : upd f i x i = x := by simp [upd]
theorem upd_other {α : Type} {f : Nat → α} {i j : Nat} {x : α} (h : j ≠ i) : upd f i x j = f j := by simp [upd, h]
section
variable {W W2 : World} {base g R : Nat} {tb : TypeId} {pa : Nat → Option Addr} {cp : Nat → Nat} {l : Nat → List Nat}
theorem Otb.below (h : Otb W base tb g R pa cp l) (hb : Below W.heap.size W W2) : Otb W2 base tb g R pa cp l :=
  ⟨h.out.below hb h.glo.2, fun i hi => (h.row i hi).kept hb, h.dis, h.ne, h.glo.1, Nat.lt_of_lt_of_le h.glo.2 hb.size⟩
theorem Otb.min (h : Otb W base tb g R pa cp l) (c : Nat) (hc : R ≤ c) : MIn W W.heap.size (some ⟨g, 0, none⟩) c R pa cp l :=
  ⟨fun i hi => ⟨g, 0, rfl, h.glo.2, by rw [Nat.zero_add]; exact (h.out i hi).1, (h.row i hi).inn⟩, hc, fun e => by cases e⟩
theorem Otb.congr {m : Nat → List Nat} (h : Otb W base tb g R pa cp l) (e : ∀ i, i < R → l i = m i) : Otb W base tb g R pa cp m :=
  ⟨h.out.congr fun i hi => by rw [e i hi], fun i hi => by rw [← e i hi]; exact h.row i hi, h.dis, h.ne, h.glo⟩
/-- 'make([][]byte, R)'. -/
theorem Otb.made (w : World) (te tb : TypeId) (R base : Nat) (hb : base ≤ w.heap.size) : Otb (w.alloc (.cells (madeCells #[.slice none 0 0] R) te)) base tb w.heap.size R (fun _ => none) (fun _ => 0) (fun _ => []) := by
  refine ⟨fun o ho => ⟨?_, World.frozen?_alloc_new w _ te o⟩, fun i _ => Own.none_ _ _ _, fun i j _ _ _ b o o' e => (by cases e), fun i _ o e => (by cases e), hb, by simp⟩
  rw [World.cell?_alloc_new w _ te o]
  simp [madeCells, ho, Nat.mod_one]
/-- Row i is another one. -/
theorem Otb.turn (h : Otb W base tb g R pa cp l) {i : Nat} (hi : i < R) (hs : W.heap.size ≤ W2.heap.size) (hblk : ∀ b, b < W.heap.size → (∀ o, pa i ≠ some ⟨b, o, none⟩) → W2.heap[b]? = W.heap[b]?)
    {A2 : Option Addr} {c2 : Nat} {L2 : List Nat} (hown : Own W2 base tb A2 c2 L2) (hloc : ∀ b o, A2 = some ⟨b, o, none⟩ → W.heap.size ≤ b ∨ ∃ o', pa i = some ⟨b, o', none⟩) (n2 : Nat) (hn2 : n2 = L2.length) :
    Otb (W2.setCell ⟨g, i, none⟩ (.slice A2 n2 c2)) base tb g R (upd pa i A2) (upd cp i c2) (upd l i L2) := by
  subst hn2
  have hg := h.glo
  have hneA : ∀ o, A2 ≠ some ⟨g, o, none⟩ := fun o e => by
    rcases hloc g o e with h1 | ⟨o', h1⟩
    · omega
    · exact h.ne i hi o' h1
  have hlt : ∀ j, j < R → ∀ b o, pa j = some ⟨b, o, none⟩ → b < W.heap.size := fun j hj b o e => by
    have := h.row j hj
    rw [e] at this
    exact this.lt.2
  have hgb : W2.heap[g]? = W.heap[g]? := hblk g hg.2 (h.ne i hi)
  have hout : Row W2 g R (fun i => .slice (pa i) (l i).length (cp i)) := fun o ho =>
    ⟨(World.cell?_of_block (w := W) (a := ⟨g, o, none⟩) hgb).trans (h.out o ho).1, (World.frozen?_of_block (w := W) (a := ⟨g, o, none⟩) hgb).trans (h.out o ho).2⟩
  refine ⟨(hout.set hi _).congr fun j hj => ?_, fun j hj => ?_, fun j m hj hm hjm b o o' e1 e2 => ?_, fun j hj o e => ?_, hg.1, by simp [World.setCell]; omega⟩
  · by_cases e : j = i
    · subst e; simp [upd]
    · simp [upd, e]
  · by_cases e : j = i
    · subst e; rw [upd_same, upd_same, upd_same]; exact hown.other hneA _
    · rw [upd_other e, upd_other e, upd_other e]
      refine Own.other ((h.row j hj).block fun b o eb => hblk b (hlt j hj b o eb) fun o' e2 => h.dis j i hj hi e b o o' eb e2) (h.ne j hj) _
  · by_cases e3 : j = i
    · subst e3
      rw [upd_same] at e1
      rw [upd_other (fun e => hjm e.symm)] at e2
      rcases hloc b o e1 with h1 | ⟨o2, h1⟩
      · have := hlt m hm b o' e2; omega
      · exact h.dis j m hj hm hjm b o2 o' h1 e2
    · rw [upd_other e3] at e1
      by_cases e4 : m = i
      · subst e4
        rw [upd_same] at e2
        rcases hloc b o' e2 with h1 | ⟨o2, h1⟩
        · have := hlt j hj b o e1; omega
        · exact h.dis m j hm hj (fun e => hjm e.symm) b o2 o h1 e1
      · rw [upd_other e4] at e2
        exact h.dis j m hj hm hjm b o o' e1 e2
  · by_cases e3 : j = i
    · subst e3; rw [upd_same] at e; exact hneA o e
    · rw [upd_other e3] at e; exact h.ne j hj o e
/-- .. one that a call has made. -/
theorem Otb.store (h : Otb W base tb g R pa cp l) {i : Nat} (hi : i < R) (hb : Below W.heap.size W W2) {A2 : Option Addr} {c2 : Nat} {L2 : List Nat} (hown : Own W2 W.heap.size tb A2 c2 L2) (hbase : base ≤ W.heap.size) (n2 : Nat) (hn2 : n2 = L2.length) :
    Otb (W2.setCell ⟨g, i, none⟩ (.slice A2 n2 c2)) base tb g R (upd pa i A2) (upd cp i c2) (upd l i L2) :=
  h.turn hi hb.size (fun b hb1 _ => hb.block b hb1) (hown.base hbase) (fun b o e => .inl (by rw [e] at hown; exact hown.lt.1)) n2 hn2
/-- Rows that were appended one by one. -/
theorem GrowL.otb {w wr : World} {te : TypeId} {v : Value} (h : GrowL w wr te tb v R pa cp l) (hne : te ≠ tb) (hR : 0 < R) : ∃ g c, v = .slice (some ⟨g, 0, none⟩) R c ∧ R ≤ c ∧ Otb wr w.heap.size tb g R pa cp l := by
  obtain ⟨g, c, hv, hc, hg1, hg2, hcell⟩ := h.cell hR
  refine ⟨g, c, hv, hc, ⟨fun i hi => hcell i hi, h.row, h.dis, fun i hi o e => ?_, hg1, hg2⟩⟩
  have h1 := h.row i hi
  rw [e] at h1
  refine tag_ne h.own h1 hne ?_
  rw [hv]; rfl
end
/-- 'append' onto a row of one's own; where the answer lies. -/
theorem run_app_at {P : Program} {w : World} (t ty : TypeId) (base : Nat) (e : TypeId) (i : TypeInfo) (z : Value) (ht : P.underlying t = some (.slice e)) (hi : P.info? e = some i) (hz : i.zero = some z)
    (hsize : i.size = 1) (hby : i.bytes = 1) (hzs : z.cells.size = 1)
    (A : Option Addr) (n c : Nat) (l : List Nat) (hn : n = l.length) (hown : Own w base e A c l)
    (B : Nat) (ad : Addr) (m c' : Nat) (l' : List Nat) (hm : m = l'.length) (hr : Sl w B (some ad) l')
    (hbytes : l.length + l'.length ≤ 140737488355328) (hbase : base ≤ w.heap.size) :
    ∃ A2 c2 w', (Builtin.append_ #[t, t] ty #[.slice A n c, .slice (some ad) m c']).run P w = .ok (.slice A2 (l ++ l').length c2) w' ∧ Own w' base e A2 c2 (l ++ l') ∧ w.grownBy w' (Value.slice A n c).ownBlock ∧
      ∀ b o, A2 = some ⟨b, o, none⟩ → w.heap.size ≤ b ∨ ∃ o', A = some ⟨b, o', none⟩ := by
  subst hn hm
  obtain ⟨v', w', hrun, h2, h3, _, h4⟩ := run_append_own_at (P := P) w base t ty e i z 1 1 ht hi hz hsize hby hzs (by omega) _ _ _ hown.1 ad l'.length c' (bys l') (by rw [bys_len, Nat.mul_one]) (fun j u hj => by
    obtain ⟨y, hy, rfl⟩ := bys_get hj
    obtain ⟨_, b, off, hb, _, hcell⟩ := hr j y hy
    injection hb with hb
    subst hb
    rw [addr_add]; exact hcell) (bys_one l') (by simp only [maxLen]; omega) (by omega) hbase
  rw [← bys_app] at h2
  obtain ⟨A2, c2, hv, ho2⟩ := Own.mk' h2 (hown.2.append hr.bb)
  subst hv
  refine ⟨A2, c2, w', hrun, ho2, h3, fun b o e => ?_⟩
  subst e
  rcases h4 with h4 | h4
  · right
    cases A with
    | none => simp [Value.ownBlock] at h4
    | some a =>
      obtain ⟨b', o', sp⟩ := a
      rcases hown.1.2 with ⟨hv, _⟩ | ⟨g2, cap, cur, hv, _⟩
      · injection hv with h1; cases h1
      · injection hv with h1
        injection h1 with h1
        injection h1 with h2 h3 h5
        subst h2 h3 h5
        simp [Value.ownBlock] at h4
        exact ⟨0, by rw [h4]⟩
  · left
    simp [Value.ownBlock] at h4
    omega
theorem step_app_at {P : Program} {w : World} {ops : Array Oper} {o : Oper} {a : Act} {K : Act → World → Prop} {Q : Exit → Act → World → Prop} {E : Prop} (hgd : o.guard = none) (s x : Operand) (t : TypeId)
    (ho : o.op = .call { callee := .builtin .append, args := #[s, x], argTypes := #[t, t] })
    (base : Nat) (e : TypeId) (i : TypeInfo) (z : Value) (ht : P.underlying t = some (.slice e)) (hi : P.info? e = some i) (hz : i.zero = some z)
    (hsize : i.size = 1) (hby : i.bytes = 1) (hzs : z.cells.size = 1)
    (A : Option Addr) (n c : Nat) (l : List Nat) (hs : a.eval s = .slice A n c) (hn : n = l.length) (hown : Own w base e A c l)
    (B : Nat) (ad : Addr) (m c' : Nat) (l' : List Nat) (hx : a.eval x = .slice (some ad) m c') (hm : m = l'.length) (hr : Sl w B (some ad) l')
    (hbytes : l.length + l'.length ≤ 140737488355328) (hbase : base ≤ w.heap.size)
    (h : ∀ A2 c2 w', Own w' base e A2 c2 (l ++ l') → w.grownBy w' (Value.slice A n c).ownBlock → (∀ b o, A2 = some ⟨b, o, none⟩ → w.heap.size ≤ b ∨ ∃ o', A = some ⟨b, o', none⟩) → K (a.put o.dst (.slice A2 (l ++ l').length c2)) w') :
    if Region.wanted o (yielded ops a.tmps) = true then Oper.wp P o a w K Q else E := by
  have hw : Region.wanted o (yielded ops a.tmps) = true := by simp [Region.wanted, hgd]
  rw [if_pos hw]
  obtain ⟨A2, c2, w', hrun, h2, h3, h4⟩ := run_app_at (P := P) t o.type base e i z ht hi hz hsize hby hzs A n c l hn hown B ad m c' l' hm hr hbytes hbase
  unfold Oper.wp execOp
  simp only [ho, resolve, invoke, builtin, Sem.run_bind, Sem.run_pure, Result.andThen_ok, List.map_toArray, List.map_cons, List.map_nil, hs, hx, hrun]
  exact h A2 c2 w' h2 h3 h4
theorem Own.at0 {w : World} {base n c b : Nat} {e : TypeId} {A : Option Addr} {l : List Nat} (h : Own w base e A c l) (hb : (Value.slice A n c).ownBlock = some b) : A = some ⟨b, 0, none⟩ := by
  rcases h.1.2 with ⟨hv, _⟩ | ⟨g, cap, cur, hv, _⟩
  · injection hv with h1; subst h1; cases hb
  · injection hv with h1
    subst h1
    simp [Value.ownBlock] at hb
    rw [hb]
/-- Row i, onto which bytes were appended, is stored. -/
theorem Otb.app {W W2 : World} {base g R : Nat} {tb : TypeId} {pa : Nat → Option Addr} {cp : Nat → Nat} {l : Nat → List Nat} (h : Otb W base tb g R pa cp l) {i : Nat} (hi : i < R) (ob : Obj) {n : Nat}
    (hgr : ((W.alloc ob).drew).grownBy W2 (Value.slice (pa i) n (cp i)).ownBlock) {A2 : Option Addr} {c2 : Nat} {L2 : List Nat} (hown : Own W2 base tb A2 c2 L2)
    (hloc : ∀ b o, A2 = some ⟨b, o, none⟩ → (W.alloc ob).drew.heap.size ≤ b ∨ ∃ o', pa i = some ⟨b, o', none⟩) :
    W2.cell? ⟨g, i, none⟩ = some (.slice (pa i) (l i).length (cp i)) ∧ W2.frozen? ⟨g, i, none⟩ = false ∧
    ∀ n2, n2 = L2.length → Otb (W2.setCell ⟨g, i, none⟩ (.slice A2 n2 c2)) base tb g R (upd pa i A2) (upd cp i c2) (upd l i L2) ∧ Below base W (W2.setCell ⟨g, i, none⟩ (.slice A2 n2 c2)) := by
  have hsz : (W.alloc ob).drew.heap.size = W.heap.size + 1 := by show (W.alloc ob).heap.size = _; rw [World.size_alloc]
  have hold : ∀ b, b < W.heap.size → (W.alloc ob).drew.heap[b]? = W.heap[b]? := fun b hb => by
    show (W.alloc ob).heap[b]? = _
    exact Below.heap_alloc _ _ _ hb
  have hblk : ∀ b, b < W.heap.size → (∀ o, pa i ≠ some ⟨b, o, none⟩) → W2.heap[b]? = W.heap[b]? := fun b hb hne =>
    (hgr.block b (by omega) (fun e => hne 0 ((h.row i hi).at0 e.symm))).trans (hold b hb)
  have hgb := hblk g h.glo.2 (h.ne i hi)
  refine ⟨(World.cell?_of_block (w := W) (a := ⟨g, i, none⟩) hgb).trans (h.out i hi).1, (World.frozen?_of_block (w := W) (a := ⟨g, i, none⟩) hgb).trans (h.out i hi).2, fun n2 hn2 => ⟨?_, ?_⟩⟩
  · refine h.turn hi (by have := hgr.size; omega) hblk hown (fun b o e => ?_) n2 hn2
    rcases hloc b o e with h1 | h1
    · left; omega
    · exact .inr h1
  · have hb : Below base W W2 := by
      refine ⟨hgr.os, hgr.tape, hgr.output, by have := hgr.size; omega, fun b hb => ?_⟩
      have := h.glo
      exact hblk b (by omega) fun o e => by have h1 := h.row i hi; rw [e] at h1; have := h1.lt.1; omega
    exact hb.setCell (p := ⟨g, i, none⟩) h.glo.1 _
end Gw
end
section
/- Predicates over a value and a world that growth bears: rows, rows of one's own, rows that were appended one by one; params in a box. -/
namespace Gt
open Go
theorem ok_load {P : Program} {w : World} {V : Value → World → Prop} {o : Oper} {ρ : Operand → Value} {t : TypeId} {x : Operand} {u v : Value} (ho : o.op = .load t x) (hx : ρ x = u) (hr : (Instr.loadAt t u).run P w = .ok v w) (hv : V v w) : StepOK P Gr V w ((execOp ρ o).run P w) := by
  refine ok_run ?_ hv
  obtain ⟨dst, op, ty, pos, after, guard⟩ := o
  simp only at ho
  subst ho
  simp only [execOp, hx, Sem.run_bind, hr, Result.andThen_ok, Sem.run_pure]
end Gt
namespace Go.Proofs.Ytgikgnhpplmljaa
open Go.RowKit Go.Shelf Gw Pol
/-- A row of n bytes l of one's own, from block base on. -/
def OIs (base n : Nat) (l : List Nat) : Value → World → Prop := fun v w => ∃ A c, v = .slice A n c ∧ Gw.Own w base 5 A c l
theorem OIs.mono (base n : Nat) (l : List Nat) : Gt.Mono (OIs base n l) := by
  rintro v w w' ⟨A, c, h1, h2⟩ hg
  exact ⟨A, c, h1, h2.kept hg⟩
/-- A row of n bytes l. -/
def NIs (n : Nat) (l : List Nat) : Value → World → Prop := fun v w => ∃ A c, v = .slice A n c ∧ In w w.heap.size A c l
theorem NIs.mono (n : Nat) (l : List Nat) : Gt.Mono (NIs n l) := by
  rintro v w w' ⟨A, c, h1, h2⟩ hg
  exact ⟨A, c, h1, (h2.below hg).more (Below.size hg)⟩
theorem growL_kept {w0 w w' : World} {te tb : TypeId} {v : Value} {k : Nat} {pa : Nat → Option Addr} {cp : Nat → Nat} {l : Nat → List Nat} (h : GrowL w0 w te tb v k pa cp l) (hb : Below w.heap.size w w') : GrowL w0 w' te tb v k pa cp l :=
  ⟨h.own2 hb, fun i hi => (h.row i hi).kept hb, h.dis, h.bel.trans (hb.mono h.bel.size)⟩
/-- R rows l that were appended one by one, from block base on. -/
def GIs (base R : Nat) (l : Nat → List Nat) : Value → World → Prop := fun v w => ∃ w0 pa cp, base ≤ (World.heap w0).size ∧ GrowL w0 w 36 5 v R pa cp l
theorem GIs.mono (base R : Nat) (l : Nat → List Nat) : Gt.Mono (GIs base R l) := by
  rintro v w w' ⟨w0, pa, cp, h1, h2⟩ hg
  exact ⟨w0, pa, cp, h1, growL_kept h2 hg⟩
/-- Params in a box. -/
structure Pbx (w : World) (b : Nat) (N T K E R : Int) : Prop where
  c0 : w.cell? ⟨b, 0, none⟩ = some (.int .i64 N)
  c1 : w.cell? ⟨b, 1, none⟩ = some (.int .i64 T)
  c2 : w.cell? ⟨b, 2, none⟩ = some (.int .i64 K)
  c3 : w.cell? ⟨b, 3, none⟩ = some (.int .i64 E)
  c4 : w.cell? ⟨b, 4, none⟩ = some (.int .i64 R)
theorem Pbx.new (w : World) (t : TypeId) (N T K E R : Int) : Pbx (w.alloc (.cells #[.int .i64 N, .int .i64 T, .int .i64 K, .int .i64 E, .int .i64 R] t)) w.heap.size N T K E R :=
  ⟨World.cell?_alloc_new w _ t 0, World.cell?_alloc_new w _ t 1, World.cell?_alloc_new w _ t 2, World.cell?_alloc_new w _ t 3, World.cell?_alloc_new w _ t 4⟩
theorem Pbx.block {w w' : World} {b : Nat} {N T K E R : Int} (h : Pbx w b N T K E R) (hb : w'.heap[b]? = w.heap[b]?) : Pbx w' b N T K E R :=
  ⟨(World.cell?_of_block (w := w) (a := ⟨b, 0, none⟩) hb).trans h.c0, (World.cell?_of_block (w := w) (a := ⟨b, 1, none⟩) hb).trans h.c1, (World.cell?_of_block (w := w) (a := ⟨b, 2, none⟩) hb).trans h.c2, (World.cell?_of_block (w := w) (a := ⟨b, 3, none⟩) hb).trans h.c3, (World.cell?_of_block (w := w) (a := ⟨b, 4, none⟩) hb).trans h.c4⟩
theorem Pbx.below {w w' : World} {b n : Nat} {N T K E R : Int} (h : Pbx w b N T K E R) (hb : Below n w w') (hn : b < n) : Pbx w' b N T K E R := h.block (hb.block b hn)
theorem Pbx.lt {w : World} {b : Nat} {N T K E R : Int} (h : Pbx w b N T K E R) : b < w.heap.size := cell_lt h.c0
/-- The whole of it is read. -/
theorem Pbx.load {w : World} {b : Nat} {N T K E R : Int} (h : Pbx w b N T K E R) : (Instr.loadAt 23 (.pointer (some ⟨b, 0, none⟩))).run Try.prog w = .ok (pv N T K E R) w := by
  obtain ⟨c0, c1, c2, c3, c4⟩ := h
  go_simp
end Go.Proofs.Ytgikgnhpplmljaa
end
section
/- What the definition's own Polys (package shamrockref10) does. -/
namespace Go.Proofs.Ytgikgnhpplmljaa
open Go.RowKit Go.Shelf Gw Pol
theorem rthrough10 (A A' : Option Addr) (c c' n m r : Nat) (xs ys : List Nat) (w : World) (hn : n = xs.length) (hm : m = ys.length) (hr : r = (thr xs ys).length) (hx : In w w.heap.size A c xs) (hy : In w w.heap.size A' c' ys) (hl : xs.length ≤ ys.length) (hcm : xs.length ≤ 70368744177664) :
    Calls Try.prog 49 #[.slice A n c, .slice A' m c'] w fun e w' => ∃ A2 c2, e = .returned (.slice A2 r c2) ∧ Gw.Own w' w.heap.size 5 A2 c2 (thr xs ys) ∧ Below w.heap.size w w' := by
  subst hn hm hr; exact rthrough_any A A' c c' xs ys w hx hy hl hcm
/-- A document's polynomials. -/
def polL (n k t : Nat) (d rnd : List Nat) (c : Nat) : List Nat := tr (add (timL (rt (secL n k)) rnd t c) (thr (secL n k) (Sp.col d k c)))
/-- .. of which q are done. -/
def plx (n k t : Nat) (d rnd : List Nat) (q c : Nat) : List Nat := if c < q then polL n k t d rnd c else timL (rt (secL n k)) rnd t c
theorem plx_step {n k t : Nat} {d rnd : List Nat} {q i : Nat} : upd (plx n k t d rnd q) q (polL n k t d rnd q) i = plx n k t d rnd (q + 1) i := by
  unfold plx upd
  by_cases e : i = q
  · subst e; simp
  · by_cases e2 : i < q
    · simp [e, e2, show i < q + 1 by omega]
    · simp [e, e2, show ¬ i < q + 1 by omega]
theorem thr_small (xs ys : List Nat) : (thr xs ys).length ≤ xs.length := thr_len xs ys
theorem timL_small {fac rnd : List Nat} {m c n : Nat} (h : n * m ≤ rnd.length) (hc : c < n) : (timL fac rnd m c).length ≤ fac.length + m := by
  have h1 := tr_len (mul fac (chunk rnd m c))
  have h2 := mul_len fac (chunk rnd m c)
  rw [chunk_len h hc] at h2
  exact Nat.le_trans h1 h2
theorem polL_room (n k t : Nat) (d rnd : List Nat) (q : Nat) {C : Nat} (h : C * t ≤ rnd.length) (hq : q < C) (htk : t + k ≤ 255) : (timL (rt (secL n k)) rnd t q).length + (thr (secL n k) (Sp.col d k q)).length ≤ 140737488355328 := by
  have h1 := timL_small (fac := rt (secL n k)) h hq
  have h2 := thr_small (secL n k) (Sp.col d k q)
  rw [(rt_top _).1] at h1
  rw [secL_len] at h1 h2
  omega
def PolRel (w1 : World) (b0 g C n k t : Nat) (d rnd : List Nat) (i : Value) (wr : World) : Prop :=
  ∃ (q : Nat) (pa : Nat → Option Addr) (cp : Nat → Nat), i = .int .i64 (q : Int) ∧ q ≤ C ∧ Otb wr b0 5 g C pa cp (plx n k t d rnd q) ∧ Below w1.heap.size w1 wr
set_option maxRecDepth 100000 in
set_option maxHeartbeats 2000000 in
theorem rpolys_any (n t k : Nat) (E R : Int) (ht : 1 ≤ t) (hk : 1 ≤ k) (hnk : n + k ≤ 255) (htk : t + k ≤ 255) (A Ar : Option Addr) (c cr N nr : Nat) (d rnd : List Nat) (hN : N = d.length) (hnr : nr = rnd.length) (w : World)
    (hI : In w w.heap.size A c d) (hr : In w w.heap.size Ar cr rnd) (C : Nat) (hC : C = Sp.cnt N k) (hlen : C * t ≤ rnd.length) (hNb : N ≤ 4096) :
    Calls Try.prog 22 #[pv n t k E R, .slice A N c, .slice Ar nr cr] w fun e w' => ∃ A2 c2 pa cp, e = .returned (.slice A2 C c2) ∧ MIn w' w'.heap.size A2 c2 C pa cp (polL n k t d rnd) ∧ Below w.heap.size w w' := by
  have hb0 : Below w.heap.size w (w.alloc (.cells #[.int .i64 (n : Int), .int .i64 (t : Int), .int .i64 (k : Int), .int .i64 E, .int .i64 R] 23)) := (Below.refl _ w).alloc (Nat.le_refl _) _
  have hpb0 := Pbx.new w 23 n t k E R
  have hCN : C ≤ N := by rw [hC]; exact Sp.cnt_le N k
  have hs := rsplit_any A c N k d _ hN ((hI.below hb0).more hb0.size) (by omega) (by omega) (by omega)
  rw [← hC] at hs
  have HS := Lib.hid hs
  have HLEN := Lib.hid hlen
  have HNR := Lib.hid hnr
  have HSL := Lib.hid (secL_len n k)
  have HRL := Lib.hid (show (rt (secL n k)).length = k + 1 by rw [(rt_top _).1, secL_len])
  clear hs hC hlen hnr hN
  go_enter Try.func22, Try.ntmps22
  go_wp2_with fail
  refine HS.out.mono ?_
  rintro e w1 ⟨v1, pa1, cp1, rfl, hG1⟩
  obtain ⟨A1, c1, rfl, hM1⟩ := hG1.min (fun i _ => Sp.col_len d k i)
  have HB1 := Lib.hid (hb0.trans (hG1.bel.mono hb0.size))
  have hpb1 := hpb0.below hG1.bel hpb0.lt
  have HPB := Lib.hid hpb1
  have HPL := Lib.hid hpb1.lt
  have HIR := Lib.hid ((hr.below HB1.out).more HB1.out.size)
  clear hG1 hb0 HS
  go_wp2
  rename_i K1 hK1
  refine Gt.regionA [Gt.Is (pv (n : Int) (t : Int) (k : Int) E R), Gt.Is (.slice A1 C c1), Gt.Is (.int .i64 (C : Int)), Gt.Is (.slice Ar nr cr), Gt.Is (pv (n : Int) (t : Int) (k : Int) E R), OIs w1.heap.size k (secL n k), OIs w1.heap.size (k + 1) (rt (secL n k)), GIs w1.heap.size C (timL (rt (secL n k)) rnd t), GIs w1.heap.size C (timL (rt (secL n k)) rnd t)] 44
    [⟨[], [3], none⟩, ⟨[], [7], none⟩, ⟨[(1, 15)], [], none⟩, ⟨[], [2], none⟩, ⟨[], [3], none⟩, ⟨[(4, 18)], [], none⟩, ⟨[(5, 19)], [], none⟩, ⟨[(0, 14), (2, 16), (3, 17), (6, 20)], [], none⟩, ⟨[(7, 21)], [], none⟩]
    [(0, 14), (1, 15), (2, 16), (3, 17), (4, 18), (5, 19), (6, 20), (7, 21), (8, 8)] (by kernel_rfl) (by kernel_rfl) (by kernel_rfl) (by kernel_rfl) ?_ ?_ ?_
  · simp only [Gt.Monos]
    repeat' apply And.intro
    all_goals (first | exact trivial | exact Gt.Is.mono _ | exact OIs.mono _ _ _ | exact GIs.mono _ _ _ | exact NIs.mono _ _)
  · simp only [Gt.Obs]
    repeat' apply And.intro
    all_goals try exact trivial
    all_goals (
      intro a w5 hg
      have hg' : Below w1.heap.size w1 w5 := hg
      simp only [Gt.Pre, Gt.Kept, Gt.Guarded, Gt.tys, List.getD_cons_zero, List.getD_cons_succ, Gt.Is, Nat.zero_add, Nat.reduceAdd]
      intros
      try (refine ⟨fun _ => ?_, fun hne => absurd (by assumption) hne⟩))
    all_goals (first
      | exact Gt.ok_move rfl (by assumption)
      | exact Gt.ok_assign rfl (by assumption)
      | exact Gt.ok_pick rfl (by assumption) (by rw [if_pos rfl]; assumption)
      | (exact Gt.ok_load rfl (by assumption) (HPB.out.below hg' HPL.out).load rfl)
      | (refine Gt.ok_call (f := 47) rfl #[pv (n : Int) (t : Int) (k : Int) E R] (by kernel_rfl) (by simp [*] <;> rfl) ((rsec_any n k t E R hnk _).mono ?_)
         rintro e w6 ⟨A6, c6, rfl, ho6, hb6⟩
         exact ⟨_, rfl, hb6, A6, c6, rfl, ho6.base hg'.size⟩)
      | (obtain ⟨A6, c6, hv6, ho6⟩ : OIs w1.heap.size k (secL n k) (a.eval (.tmp 19)) w5 := by assumption
         refine Gt.ok_call (f := 46) rfl #[.slice A6 k c6] (by kernel_rfl) (by simp [hv6]) ((rroots' A6 c6 k (secL n k) w5 HSL.out.symm ho6.inn (by rw [HSL.out]; omega)).mono ?_)
         rintro e w6 ⟨A7, c7, rfl, ho7, hb7⟩
         exact ⟨_, rfl, hb7, A7, c7, by rw [HRL.out], ho7.base hg'.size⟩)
      | (obtain ⟨A6, c6, hv6, ho6⟩ : OIs w1.heap.size (k + 1) (rt (secL n k)) (a.eval (.tmp 20)) w5 := by assumption
         refine Gt.ok_call (f := 45) rfl #[pv (n : Int) (t : Int) (k : Int) E R, .int .i64 1, .int .i64 (C : Int), .slice Ar nr cr, .slice A6 (k + 1) c6] (by kernel_rfl) (by simp [*] <;> rfl) ((rtim_any n t k E R 1 ht htk C t (by simp [eachN]) Ar A6 cr c6 nr (k + 1) rnd (rt (secL n k)) HNR.out HRL.out.symm w5 ((HIR.out.below hg').more hg'.size) ho6.inn HLEN.out (by omega) (by rw [HRL.out]; omega)).mono ?_)
         rintro e w6 ⟨v7, pa7, cp7, rfl, hG7⟩
         exact ⟨_, rfl, hG7.bel, w5, pa7, cp7, hg'.size, hG7⟩)
      | (refine Gt.ok_run ?_ rfl
         simp only [execOp, resolve, List.map_toArray, List.map_cons, List.map_nil, *]
         go_simp
         done))
  · intro a w5 hg
    have hg' : Below w1.heap.size w1 w5 := hg
    simp only [Gt.Pre, Gt.tys, List.getD_cons_zero, List.getD_cons_succ, Gt.Is]
    intro h0 h1 h2 h3 h4 h5 h6 h7 h8
    obtain ⟨w0', pa7, cp7, hb7, hG7⟩ := h8
    obtain ⟨v8, hv8⟩ : ∃ v, v = a.eval (.tmp 8) := ⟨_, rfl⟩
    rw [← hv8] at hG7
    have h8' : a.eval (.tmp 8) = v8 := hv8.symm
    clear hv8
    obtain ⟨_, _, h5, _⟩ := h5
    obtain ⟨_, _, h6, _⟩ := h6
    obtain ⟨_, _, _, _, h7⟩ := h7
    show K1 _ _
    refine hK1 _ _ ?_
    simp only [Gt.puts, List.foldl_cons, List.foldl_nil, h0, h1, h2, h3, h4, h5, h6, h8']
    simp only [Act.put, List.setIfInBounds_toArray, List.set_cons_zero, List.set_cons_succ]
    have HB5 := Lib.hid (HB1.out.trans (hg'.mono HB1.out.size))
    by_cases hC0 : 0 < C
    · obtain ⟨g, cg, rfl, hcg, hO7⟩ := hG7.otb (by decide) hC0
      obtain ⟨b0, hb0⟩ : ∃ b, b = w0'.heap.size := ⟨_, rfl⟩
      rw [← hb0] at hO7 hb7
      clear hb0 hG7
      have hO0 := hO7.congr (m := plx n k t d rnd 0) (fun i hi => by simp [plx])
      clear hO7
      clear h0 h1 h2 h3 h4 h5 h6 h7 h8'
      go_wp2
      go_loopw [9] (PolRel w1 b0 g C n k t d rnd) (fun i _ => C - (intOf i).toNat)
      case atStart => exact ⟨0, pa7, cp7, rfl, Nat.zero_le _, hO0, hg'⟩
      case round =>
        clear hO0 HPB HPL
        obtain ⟨q, pa, cp, rfl, hq0, hO, hbr⟩ := hrel
        by_cases hq : q < C
        · have hqi : (q : Int) < (C : Int) := by omega
          have hbs := hbr.size
          obtain ⟨bc, oc, hA1, hbl, hcc, hIc⟩ := (hM1.below hbr).rd q hq
          subst hA1
          rw [Sp.col_len] at hcc
          have hlq : plx n k t d rnd q q = timL (rt (secL n k)) rnd t q := by simp [plx]
          have hgc : wr.cell? ⟨g, q, none⟩ = some (.slice (pa q) (plx n k t d rnd q q).length (cp q)) := (hO.out q hq).1
          rw [hlq] at hgc
          have hIq := (hO.row q hq).inn
          rw [hlq] at hIq
          obtain ⟨n5, hn5⟩ : ∃ n5, n5 = (timL (rt (secL n k)) rnd t q).length := ⟨_, rfl⟩
          obtain ⟨nt, hnt⟩ : ∃ nt, nt = (thr (secL n k) (Sp.col d k q)).length := ⟨_, rfl⟩
          obtain ⟨nl, hnl⟩ : ∃ nl, nl = (polL n k t d rnd q).length := ⟨_, rfl⟩
          rw [← hn5] at hgc
          have HLB := Lib.hid (polL_room n k t d rnd q HLEN.out hq htk)
          have HN5 := Lib.hid hn5
          have HNT := Lib.hid hnt
          have HNLE := Lib.hid hnl
          have HGC := Lib.hid hgc
          have HGL := Lib.hid (show g < wr.heap.size from hO.glo.2)
          have HBC := Lib.hid hcc
          have HBL := Lib.hid (show bc < wr.heap.size by omega)
          have HIC := Lib.hid (hIc.more hbs)
          have HIQ := Lib.hid hIq
          have HPB := Lib.hid (hpb1.below hbr hpb1.lt)
          have HPL := Lib.hid (show w.heap.size < wr.heap.size by have := hpb1.lt; omega)
          have HBS := Lib.hid (show b0 ≤ wr.heap.size by have := hO.glo; omega)
          have HGB := Lib.hid (show w1.heap.size ≤ g by have := hO.glo; omega)
          have HO := Lib.hid hO
          have HBR := Lib.hid hbr
          clear hn5 hnt hnl hgc hcc hIc hIq hO hbr hlq hbl hM1
          go_wp2
          rename_i K2 hK2
          refine Gt.regionB [Gt.Is (.slice (some ⟨g, 0, none⟩) C cg), Gt.Is (.int .i64 (q : Int)), Gt.Is (.slice (some ⟨g, 0, none⟩) C cg), Gt.Is (.int .i64 (q : Int)), Gt.Is (.pointer (some ⟨g, q, none⟩)), Gt.Is (.slice (pa q) n5 (cp q)), Gt.Is (pv (n : Int) (t : Int) (k : Int) E R), OIs wr.heap.size k (secL n k), Gt.Is (.slice (some ⟨bc, oc, none⟩) C c1), Gt.Is (.int .i64 (q : Int)), Gt.Is (.pointer (some ⟨bc, oc + q, none⟩)), Gt.Is (.slice (pa1 q) k (cp1 q)), OIs wr.heap.size nt (thr (secL n k) (Sp.col d k q)), OIs wr.heap.size nl (polL n k t d rnd q), Gt.Is (.pointer (some ⟨g, q, none⟩))] 44 15
            [⟨[], [8], none⟩, ⟨[], [9], none⟩, ⟨[], [8], none⟩, ⟨[], [9], none⟩, ⟨[(2, 30), (3, 31)], [], none⟩, ⟨[(4, 32)], [], none⟩, ⟨[], [3], none⟩, ⟨[(6, 34)], [], none⟩, ⟨[], [7], none⟩, ⟨[], [9], none⟩, ⟨[(8, 36), (9, 37)], [], none⟩, ⟨[(10, 38)], [], none⟩, ⟨[(7, 35), (11, 39)], [], none⟩, ⟨[(5, 33), (12, 40)], [], none⟩, ⟨[(0, 28), (1, 29)], [], none⟩, ⟨[(14, 42), (13, 41)], [], none⟩]
            [(0, 28), (1, 29), (2, 30), (3, 31), (4, 32), (5, 33), (6, 34), (7, 35), (8, 36), (9, 37), (10, 38), (11, 39), (12, 40), (13, 41), (14, 42)] (by kernel_rfl) (by kernel_rfl) (by kernel_rfl) (by kernel_rfl) (by kernel_rfl) ?_ ?_ ?_
          · simp only [Gt.Monos]
            repeat' apply And.intro
            all_goals (first | exact trivial | exact Gt.Is.mono _ | exact OIs.mono _ _ _ | exact GIs.mono _ _ _ | exact NIs.mono _ _)
          · simp only [List.take_succ_cons, List.take_zero, Gt.Obs]
            repeat' apply And.intro
            all_goals try exact trivial
            all_goals (
              intro a w5 hg
              have hg' : Below wr.heap.size wr w5 := hg
              simp only [Gt.Pre, Gt.Kept, Gt.Guarded, Gt.tys, List.getD_cons_zero, List.getD_cons_succ, Gt.Is, Nat.zero_add, Nat.reduceAdd]
              intros
              try (refine ⟨fun _ => ?_, fun hne => absurd (by assumption) hne⟩))
            all_goals (first
              | exact Gt.ok_move rfl (by assumption)
              | exact Gt.ok_assign rfl (by assumption)
              | exact Gt.ok_pick rfl (by assumption) (by rw [if_pos rfl]; assumption)
              | (exact Gt.ok_load rfl (by assumption) (HPB.out.below hg' HPL.out).load rfl)
              | (refine Gt.ok_call (f := 47) rfl #[pv (n : Int) (t : Int) (k : Int) E R] (by kernel_rfl) (by simp [*] <;> rfl) ((rsec_any n k t E R hnk _).mono ?_)
                 rintro e w6 ⟨A6, c6, rfl, ho6, hb6⟩
                 exact ⟨_, rfl, hb6, A6, c6, rfl, ho6.base hg'.size⟩)
              | (obtain ⟨A6, c6, hv6, ho6⟩ : OIs wr.heap.size k (secL n k) (a.eval (.tmp 35)) w5 := by assumption
                 refine Gt.ok_call (f := 49) rfl #[.slice A6 k c6, .slice (pa1 q) k (cp1 q)] (by kernel_rfl) (by simp [*] <;> rfl) ((rthrough10 A6 (pa1 q) c6 (cp1 q) k k nt (secL n k) (Sp.col d k q) w5 HSL.out.symm (Sp.col_len d k q).symm HNT.out ho6.inn ((HIC.out.below hg').more hg'.size) (by rw [HSL.out, Sp.col_len]; exact Nat.le_refl _) (by rw [HSL.out]; omega)).mono ?_)
                 rintro e w6 ⟨A7, c7, rfl, ho7, hb7⟩
                 exact ⟨_, rfl, hb7, A7, c7, rfl, ho7.base hg'.size⟩)
              | (obtain ⟨A6, c6, hv6, ho6⟩ : OIs wr.heap.size nt (thr (secL n k) (Sp.col d k q)) (a.eval (.tmp 40)) w5 := by assumption
                 refine Gt.ok_call (f := 48) rfl #[.slice (pa q) n5 (cp q), .slice A6 nt c6] (by kernel_rfl) (by simp [*] <;> rfl) ((radd' (pa q) A6 (cp q) c6 n5 nt (timL (rt (secL n k)) rnd t q) (thr (secL n k) (Sp.col d k q)) w5 HN5.out HNT.out ((HIQ.out.below hg').more hg'.size) ho6.inn HLB.out).mono ?_)
                 rintro e w6 ⟨A7, c7, rfl, ho7, hb7⟩
                 exact ⟨_, rfl, hb7, A7, c7, by rw [HNLE.out]; rfl, ho7.base hg'.size⟩)
              | (have k5 := (hg'.cell (p := ⟨g, q, none⟩) HGL.out).trans HGC.out
                 have k6 := (hg'.cell (p := ⟨bc, oc + q, none⟩) HBL.out).trans HBC.out
                 refine Gt.ok_run ?_ rfl
                 simp only [execOp, *]
                 go_simp
                 done))
          · intro a w5 hg
            have hg' : Below wr.heap.size wr w5 := hg
            simp only [Gt.Pre, Gt.tys, List.getD_cons_zero, List.getD_cons_succ, Gt.Is]
            intro h0 h1 h2 h3 h4 h5 h6 h7 h8 h9 h10 h11 h12 h13 h14
            obtain ⟨A7, c7, h13, ho7⟩ := h13
            show wpList _ _ _ _ _ _
            have hO5 := HO.out.below hg'
            have k5 := (hO5.out q hq).1
            have f5 := (hO5.out q hq).2
            simp only [Gt.puts, List.foldl_cons, List.foldl_nil, h0, h1, h2, h3, h4, h5, h6, h8, h9, h10, h11, h13, h14]
            simp only [Act.put, List.setIfInBounds_toArray, List.set_cons_zero, List.set_cons_succ]
            have HST := Lib.hid (HO.out.store (i := q) hq hg' ho7 HBS.out nl HNLE.out)
            have HBW := Lib.hid (HBR.out.trans ((hg'.mono HBR.out.size).setCell (p := ⟨g, q, none⟩) HGB.out (.slice A7 nl c7)))
            clear hO5 ho7
            go_wp2
            go_roundw
            case rel => exact ⟨q + 1, _, _, by go_num, by omega, HST.out.congr (fun i hi => plx_step), HBW.out⟩
            case measure => simp [intOf]; omega
        · obtain rfl : q = C := by omega
          have HM := Lib.hid ((hO.congr (m := polL n k t d rnd) (fun i hi => by simp [plx, hi])).min cg hcg)
          have HBW := Lib.hid (HB1.out.trans (hbr.mono HB1.out.size))
          clear hO hbr hM1
          go_wp2
          go_ret
          exact ⟨_, _, _, _, rfl, HM.out, HBW.out⟩
    · obtain rfl : C = 0 := by omega
      obtain ⟨A8, c8, rfl, hc8, hn8⟩ := hG7.shape
      clear hG7
      go_wp2
      go_loop [9] (fun i => i = .int .i64 0) (fun _ => 0)
      case atStart => rfl
      case round =>
        subst hrel
        go_wp2
        go_ret
        exact ⟨A8, c8, rfl, ⟨fun _ => none, fun _ => 0, ⟨fun i hi => by omega, hc8, hn8⟩⟩, HB5.out⟩
end Go.Proofs.Ytgikgnhpplmljaa
end
section
/- Calls, and arrays that are loaded and stored whole, as steps of a region that leaves its order open. -/
namespace Gw
open Go Go.RowKit Go.Shelf
/-- A call of a named function as one step of a region that leaves its order open. -/
theorem step_call {P : Program} {w : World} {ops : Array Oper} {o : Oper} {a : Act} {K : Act → World → Prop} {Q : Exit → Act → World → Prop} {E : Prop} (hgd : o.guard = none) (f : FuncId) (xs : Array Operand) (ts : Array TypeId)
    (ho : o.op = .call { callee := .value (.func f), args := xs, argTypes := ts }) (vs : Array Value) (hen : (callFunc f vs).run P w = .ok (.enter f vs) w) (hv : xs.map a.eval = vs) {Z : Ending → World → Prop} (hc : Calls P f vs w Z)
    (h : ∀ e w', Z e w' → ∃ v, e = .returned v ∧ K (a.put o.dst v) w') : if Region.wanted o (yielded ops a.tmps) = true then Oper.wp P o a w K Q else E := by
  have hw : Region.wanted o (yielded ops a.tmps) = true := by simp [Region.wanted, hgd]
  rw [if_pos hw]
  obtain ⟨dst, op, ty, pos, after, guard⟩ := o
  simp only at ho
  subst ho
  unfold Oper.wp
  rw [execOp_call_go, hv]
  have e : #[] ++ vs ++ #[] = vs := by simp
  rw [e, hen, Oper.upon_enter]
  refine hc.mono fun e w' he => ?_
  obtain ⟨v, rfl, hk⟩ := h e w' he
  exact hk
/-- The same, where the call is guarded and wanted: a step of a region that leaves its order open. -/
theorem step_callG {P : Program} {w : World} {ops : Array Oper} {o : Oper} {a : Act} {K : Act → World → Prop} {Q : Exit → Act → World → Prop} {E : Prop} (hw : Region.wanted o (yielded ops a.tmps) = true) (f : FuncId) (xs : Array Operand) (ts : Array TypeId)
    (ho : o.op = .call { callee := .value (.func f), args := xs, argTypes := ts }) (vs : Array Value) (hen : (callFunc f vs).run P w = .ok (.enter f vs) w) (hv : xs.map a.eval = vs) {Z : Ending → World → Prop} (hc : Calls P f vs w Z)
    (h : ∀ e w', Z e w' → ∃ v, e = .returned v ∧ K (a.put o.dst v) w') : if Region.wanted o (yielded ops a.tmps) = true then Oper.wp P o a w K Q else E := by
  rw [if_pos hw]
  obtain ⟨dst, op, ty, pos, after, guard⟩ := o
  simp only at ho
  subst ho
  unfold Oper.wp
  rw [execOp_call_go, hv]
  have e : #[] ++ vs ++ #[] = vs := by simp
  rw [e, hen, Oper.upon_enter]
  refine hc.mono fun e w' he => ?_
  obtain ⟨v, rfl, hk⟩ := h e w' he
  exact hk
/-- A whole array is loaded. -/
theorem step_loadrow {P : Program} {w : World} {ops : Array Oper} {o : Oper} {a : Act} {K : Act → World → Prop} {Q : Exit → Act → World → Prop} {E : Prop} (hgd : o.guard = none) (ty : TypeId) (x : Operand) (ho : o.op = .load ty x)
    (g : Nat) (hx : a.eval x = .pointer (some ⟨g, 0, none⟩)) (t : TypeId) (cs : Array Value) (fr : Nat × Nat) (d : TypeDesc) (hg : w.heap[g]? = some (.cells cs t fr))
    (hu : P.underlying ty = some d) (hd : (match d with | .struct _ | .array _ _ => true | _ => false) = true) (hi : (P.info? ty).map (·.size) = some cs.size)
    (h : K (a.put o.dst (.agg cs)) w) : if Region.wanted o (yielded ops a.tmps) = true then Oper.wp P o a w K Q else E := by
  have hw : Region.wanted o (yielded ops a.tmps) = true := by simp [Region.wanted, hgd]
  rw [if_pos hw]
  exact wp_load_row ty x ho g hx t cs fr d hg hu hd hi h
/-- A whole array is stored. -/
theorem step_storerow {P : Program} {w : World} {ops : Array Oper} {o : Oper} {a : Act} {K : Act → World → Prop} {Q : Exit → Act → World → Prop} {E : Prop} (hgd : o.guard = none) (ty : TypeId) (x y : Operand) (ho : o.op = .store ty x y)
    (g : Nat) (cells : Array Value) (hx : a.eval x = .pointer (some ⟨g, 0, none⟩)) (hy : a.eval y = .agg cells)
    (t : TypeId) (old : Array Value) (hg : w.heap[g]? = some (.cells old t (0, 0))) (hi : (P.info? ty).map (·.size) = some cells.size)
    (hold : old.size = cells.size) (h1 : cells.all (·.oneCell') = true)
    (h : K (a.put o.dst undef) (w.setRow g cells)) : if Region.wanted o (yielded ops a.tmps) = true then Oper.wp P o a w K Q else E := by
  have hw : Region.wanted o (yielded ops a.tmps) = true := by simp [Region.wanted, hgd]
  rw [if_pos hw]
  exact wp_store_row ty x y ho g cells hx hy t old hg hi hold h1 h
end Gw
end
section
/- What the definition's own Shares (package shamrockref10) does. -/
namespace Go.Proofs.Ytgikgnhpplmljaa
open Go.RowKit Go.Shelf Gw Pol
theorem wrap_byte {x : Nat} (h : x < 256) : IntKind.u8.wrap (x : Int) = (x : Int) := by
  rw [IntKind.wrap_u8]; omega
/-- Holder h's share of the first C polynomials l. -/
def shRow (l : Nat → List Nat) (C h : Nat) : List Nat := (List.range C).map fun c => ev (h + 1) (l c)
theorem shRow_len (l : Nat → List Nat) (C h : Nat) : (shRow l C h).length = C := by simp [shRow]
theorem shRow_succ (l : Nat → List Nat) (C h : Nat) : shRow l (C + 1) h = shRow l C h ++ [ev (h + 1) (l C)] := by simp [shRow, List.range_succ]
/-- Some are done. -/
def shPart (l : Nat → List Nat) (C h c i : Nat) : List Nat := if i < h then shRow l C i else if i = h then shRow l c i else []
theorem shPart_step {l : Nat → List Nat} {C h c i : Nat} : upd (shPart l C h c) h (shRow l (c + 1) h) i = shPart l C h (c + 1) i := by
  unfold shPart upd
  by_cases e : i = h
  · subst e; simp
  · simp [e]
theorem shPart_next {l : Nat → List Nat} {C h i : Nat} : shPart l C h C i = shPart l C (h + 1) 0 i := by
  unfold shPart
  by_cases e : i < h
  · simp [e, show i < h + 1 by omega]
  · by_cases e2 : i = h
    · subst e2; simp
    · by_cases e3 : i = h + 1
      · subst e3; simp [shRow, show ¬ h + 1 < h by omega]
      · simp [e, e2, e3, show ¬ i < h + 1 by omega]
def ShRelO (w0 : World) (b0 n C : Nat) (l : Nat → List Nat) (i : Value) (wr : World) : Prop :=
  ∃ (h : Nat) (pa : Nat → Option Addr) (cp : Nat → Nat), i = .int .i64 (h : Int) ∧ h ≤ n ∧ Otb wr b0 5 b0 n pa cp (shPart l C h 0) ∧ Below b0 w0 wr
def ShRelI (w0 : World) (b0 n C h : Nat) (l : Nat → List Nat) (i : Value) (wr : World) : Prop :=
  ∃ (c : Nat) (pa : Nat → Option Addr) (cp : Nat → Nat), i = .int .i64 (c : Int) ∧ c ≤ C ∧ Otb wr b0 5 b0 n pa cp (shPart l C h c) ∧ Below b0 w0 wr
set_option maxRecDepth 100000 in
set_option maxHeartbeats 2000000 in
theorem rshares_any (n : Nat) (T K E R : Int) (hn : n ≤ 254) (A : Option Addr) (cc C : Nat) (P : Nat → Option Addr) (Cp : Nat → Nat) (l : Nat → List Nat) (w : World) (hM : MIn w w.heap.size A cc C P Cp l) (hC : C ≤ 4096) (hL : ∀ i, i < C → (l i).length ≤ 4096) :
    Calls Try.prog 21 #[pv n T K E R, .slice A C cc] w fun e w' => ∃ A2 c2 pa cp, e = .returned (.slice A2 n c2) ∧ MIn w' w'.heap.size A2 c2 n pa cp (shRow l C) ∧ Below w.heap.size w w' := by
  obtain ⟨i0, hi0, hz0, hz1, hz2⟩ := info_parts pbyte_info
  have hmk := run_make_row' (P := Try.prog) 25 36 (.slice none 0 0) 24 Try.underlying25 srow_info rfl .i64 .i64 n (by omega) (by omega)
  have hb0 : Below w.heap.size w (w.alloc (.cells #[.int .i64 (n : Int), .int .i64 T, .int .i64 K, .int .i64 E, .int .i64 R] 23)) := (Below.refl _ w).alloc (Nat.le_refl _) _
  have hpb0 := Pbx.new w 23 n T K E R
  obtain ⟨w0, hw0⟩ : ∃ w0, w0 = w.alloc (.cells #[.int .i64 (n : Int), .int .i64 T, .int .i64 K, .int .i64 E, .int .i64 R] 23) := ⟨_, rfl⟩
  have hO0 := Otb.made w0 36 5 n w0.heap.size (Nat.le_refl _)
  have hbm : Below w0.heap.size w0 (w0.alloc (.cells (madeCells #[.slice none 0 0] n) 36)) := (Below.refl _ _).alloc (Nat.le_refl _) _
  have hg0 : w0.heap.size = w.heap.size + 1 := by rw [hw0]; simp
  go_enter Try.func21, Try.ntmps21
  rw [← hw0] at hb0 hpb0
  obtain ⟨b0, hb0'⟩ : ∃ b0, b0 = w0.heap.size := ⟨_, rfl⟩
  rw [← hb0'] at hO0 hbm hg0
  have hO1 := hO0.congr (m := shPart l C 0 0) (fun i _ => by unfold shPart; by_cases e : i = 0 <;> simp [e, shRow])
  have HBW := Lib.hid hb0
  have hM0 := (hM.below hb0).more hb0.size
  clear hO0 hb0
  go_wp2
  rw [← hw0, ← hg0]
  have hlt0 : w.heap.size < b0 := by omega
  have hle0 : b0 ≤ w0.heap.size := by omega
  have hge0 : w0.heap.size ≤ b0 := by omega
  clear hw0 hmk hg0 hb0'
  go_loopw [6] (ShRelO w0 b0 n C l) (fun i _ => n - (intOf i).toNat)
  case atStart => exact ⟨0, _, _, rfl, Nat.zero_le _, hO1, hbm⟩
  case round =>
    clear hO1 hbm
    obtain ⟨h, pa, cp, rfl, hhn, hO, hbr⟩ := hrel
    have hpb := hpb0.below hbr (by omega)
    obtain ⟨c0, c1, c2, c3, c4⟩ := hpb
    by_cases hh : h < n
    · have HO := Lib.hid hO
      have HBR := Lib.hid hbr
      clear hO hbr
      go_wp2
      go_loopw [7] (ShRelI w0 b0 n C h l) (fun i _ => C - (intOf i).toNat)
      case atStart => exact ⟨0, _, _, rfl, Nat.zero_le _, HO.out, HBR.out⟩
      case round =>
        clear HO HBR c0 c1 c2 c3 c4
        obtain ⟨c, pa, cp, rfl, hcC, hO, hbr⟩ := hrel
        by_cases hc : c < C
        · have hhi : (h : Int) < (n : Int) := by omega
          have hci : (c : Int) < (C : Int) := by omega
          have hbs := hbr.size
          obtain ⟨bp, op, rfl, hbl, hcc, hIc⟩ := (hM0.below (hbr.mono (by omega))).rd c hc
          have hLc := hL c hc
          have hcap := hM0.cap
          obtain ⟨m, hm⟩ : ∃ m, m = (l c).length := ⟨_, rfl⟩
          rw [← hm] at hcc
          obtain ⟨x, hx⟩ : ∃ x, x = h + 1 := ⟨_, rfl⟩
          have e1 : (h : Int) + 1 = (x : Int) := by omega
          have hxb : x < 256 := by omega
          have e2 : IntKind.i64.wrap (x : Int) = (x : Int) := by rw [IntKind.wrap_i64]; omega
          have e3 : IntKind.u8.wrap (x : Int) = (x : Int) := wrap_byte hxb
          obtain ⟨y, hy⟩ : ∃ y, y = ev x (l c) := ⟨_, rfl⟩
          have hyb : y < 256 := by rw [hy]; exact ev_lt hIc.bb _
          have HEV : Hid (Calls Try.prog 43 #[.slice (P c) m (Cp c), .int .u8 (x : Int)] wr.drew fun e w' => e = .returned (.int .u8 (y : Int)) ∧ w' = wr.drew) :=
            Lib.hid ((reval' (P c) (Cp c) m (l c) x hxb wr.drew _ hm (hIc.drewN 1) (by omega)).mono fun e w' h => ⟨by rw [h.1, hy], h.2.symm⟩)
          have hrl : shPart l C h c h = shRow l c h := by simp [shPart]
          have hgc : wr.cell? ⟨b0, h, none⟩ = some (.slice (pa h) (shPart l C h c h).length (cp h)) := (hO.out h hh).1
          rw [hrl, shRow_len] at hgc
          have hrow := hO.row h hh
          rw [hrl] at hrow
          have HROW := Lib.hid hrow
          have HSR := Lib.hid (show shRow l (c + 1) h = shRow l c h ++ [y] by rw [shRow_succ, hy, hx])
          have HRLEN := Lib.hid (shRow_len l c h)
          have HL1 := Lib.hid (show (shRow l c h ++ [y]).length = c + 1 by rw [List.length_append, shRow_len]; rfl)
          have q1 : ∀ o, (wr.alloc o).cell? ⟨b0, h, none⟩ = some (.slice (pa h) c (cp h)) := fun o => (World.cell?_alloc_lt wr o _ (by show b0 < _; exact hO.glo.2)).trans hgc
          have HO := Lib.hid hO
          have HBR := Lib.hid hbr
          have hob := hO.glo
          clear hO hbr hrow hrl hIc hy hx hm hM0
          go_wp2
          go_region_law (first
            | (refine step_call rfl 43 _ _ rfl #[.slice (P c) m (Cp c), .int .u8 (x : Int)] (by kernel_rfl) (by first | rfl | (simp [Act.eval]; done) | (simp [Act.eval, Act.put]; done)) HEV.out ?_
               rintro e w2 ⟨rfl, rfl⟩
               refine ⟨_, rfl, ?_⟩)
            | (refine step_app_at rfl (.tmp 28) (.tmp 37) 36 rfl b0 5 i0 _ Try.underlying36 hi0 hz0 hz1 hz2 rfl (pa h) c (cp h) (shRow l c h) (by first | rfl | (simp [Act.eval]; done) | (simp [Act.eval, Act.put]; done)) HRLEN.out.symm ((HROW.out.alloc _).drewN 1) (wr.heap.size + 1) ⟨wr.heap.size, 0, none⟩ 1 1 [y] (by first | rfl | (simp [Act.eval]; done) | (simp [Act.eval, Act.put]; done)) rfl ((Sl.one wr 5 y hyb).drewN 1) (by rw [HRLEN.out]; simp; omega) (by show b0 ≤ (wr.alloc _).heap.size; rw [World.size_alloc]; omega) ?_
               intro A2 c2 w2 hown2 hgr2 hloc2
               obtain ⟨k5, f5, hfin⟩ := HO.out.app hh _ hgr2 hown2 hloc2
               rw [HL1.out]))
          all_goals (
            have HF := Lib.hid (hfin (c + 1) HL1.out.symm)
            clear hfin hown2 hgr2 hloc2 k5 f5 q1 hgc hcc
            go_wp2
            go_roundw
            case rel => exact ⟨c + 1, _, _, by go_num, by omega, HF.out.1.congr (fun i _ => by rw [← HSR.out]; exact shPart_step), HBR.out.trans HF.out.2⟩
            case measure => simp [intOf]; omega)
        · obtain rfl : c = C := by omega
          have HO := Lib.hid (hO.congr (m := shPart l c (h + 1) 0) (fun i _ => shPart_next))
          have HBR := Lib.hid hbr
          clear hO hbr
          go_wp2
          go_roundw
          case rel => exact ⟨h + 1, _, _, by go_num, by omega, HO.out, HBR.out⟩
          case measure => simp [intOf]; omega
    · obtain rfl : h = n := by omega
      have HMM := Lib.hid ((hO.congr (m := shRow l C) (fun i hi => by unfold shPart; rw [if_pos hi])).min h (Nat.le_refl _))
      have HB2 := Lib.hid (HBW.out.trans (hbr.mono (by omega)))
      clear hO hbr
      go_wp2
      go_ret
      exact ⟨_, _, _, _, rfl, HMM.out, HB2.out⟩
end Go.Proofs.Ytgikgnhpplmljaa
end
section
/- What the definition's own Xor (package shamrockref10) does. -/
namespace Go.Proofs.Ytgikgnhpplmljaa
open Go.RowKit Go.Shelf Gw Pol
/-- Two rows together. -/
def xorL (a b : List Nat) : List Nat := (List.range a.length).map fun i => co a i ^^^ co b i
theorem xorL_len (a b : List Nat) : (xorL a b).length = a.length := by simp [xorL]
theorem xorL_co {a b : List Nat} {i : Nat} (h : i < a.length) : co (xorL a b) i = co a i ^^^ co b i := by simp [co, xorL, h]
def xorP (a b : List Nat) (q : Nat) : List Nat := (List.range a.length).map fun i => if i < q then co a i ^^^ co b i else co a i
theorem xorP_len (a b : List Nat) (q : Nat) : (xorP a b q).length = a.length := by simp [xorP]
theorem xorP_zero (a b : List Nat) : xorP a b 0 = a := by
  apply List.ext_getElem
  · simp [xorP]
  · intro i h1 h2; simp [xorP, co_get h2]
theorem xorP_co {a b : List Nat} {q : Nat} (h : q < a.length) : co (xorP a b q) q = co a q := by simp [co, xorP, h]
theorem xorP_set {a b : List Nat} {q : Nat} : (xorP a b q).set q (co a q ^^^ co b q) = xorP a b (q + 1) := by
  apply List.ext_getElem
  · simp [xorP]
  · intro j h1 h2
    simp only [xorP, List.getElem_set, List.getElem_map, List.getElem_range]
    by_cases hj : q = j
    · subst hj; simp
    · rw [if_neg hj]
      by_cases h3 : j < q
      · rw [if_pos h3, if_pos (by omega)]
      · rw [if_neg h3, if_neg (by omega)]
theorem xorP_done {a b : List Nat} {q : Nat} (h : a.length ≤ q ∨ b.length ≤ q) : xorP a b q = xorL a b := by
  apply List.ext_getElem
  · simp [xorP, xorL]
  · intro j h1 h2
    simp only [xorP, xorL, List.getElem_map, List.getElem_range]
    by_cases hj : j < q
    · rw [if_pos hj]
    · rw [if_neg hj]
      have : j < a.length := by simpa [xorP] using h1
      rw [co_far (p := b) (by omega)]; simp
def XorRel (w : World) (A : Option Addr) (c : Nat) (a b : List Nat) (i : Value) (wr : World) : Prop :=
  ∃ q : Nat, q ≤ a.length ∧ q ≤ b.length ∧ i = .int .i64 (q : Int) ∧ Gw.Own wr w.heap.size 5 A c (xorP a b q) ∧ Below w.heap.size w wr
set_option maxRecDepth 100000 in
set_option maxHeartbeats 1000000 in
theorem rxor_any (A A' : Option Addr) (c c' n m : Nat) (a b : List Nat) (hn : n = a.length) (hm : m = b.length) (w : World) (hI : In w w.heap.size A c a) (hI' : In w w.heap.size A' c' b) (hnb : n ≤ 140737488355328) :
    Calls Try.prog 23 #[.slice A n c, .slice A' m c'] w fun e w' => ∃ A2 c2, e = .returned (.slice A2 n c2) ∧ Gw.Own w' w.heap.size 5 A2 c2 (xorL a b) ∧ Below w.heap.size w w' := by
  obtain ⟨i0, hi0, hz0, hz1, hz2⟩ := info_parts byte_info
  have HN := Lib.hid hn
  have HM := Lib.hid hm
  clear hn hm
  have HO0 := Lib.hid (Own.lit0 w w.heap.size 5 (Nat.le_refl _))
  have HSA := Lib.hid (hI.sl.alloc (Nat.le_refl _) (.cells #[] 5))
  have hnil := hI.none_
  go_enter Try.func23, Try.ntmps23
  go_wp2_with (first | (at_builtin; refine wpList_app rfl (.tmp 7) (.tmp 8) 36 rfl w.heap.size 5 i0 _ Try.underlying36 hi0 hz0 hz1 hz2 rfl (some ⟨w.heap.size, 0, none⟩) 0 0 [] rfl rfl HO0.out w.heap.size A n c a rfl HN.out hnil HSA.out (by rw [← HN.out]; simp; omega) (by rw [World.size_alloc]; omega) ?_; intro A2 c2 w2 hown2 hgr2; rw [List.nil_append] at hown2; rw [List.nil_append, ← HN.out]) | fail)
  have hB2 : Below w.heap.size w w2 := below_lit' (Below.refl _ _) (Nat.le_refl _) hgr2
  have hO2 : Gw.Own w2 w.heap.size 5 A2 c2 (xorP a b 0) := by rw [xorP_zero]; exact hown2
  clear hown2 hgr2 HO0 HSA
  go_loopw [6] (XorRel w A2 c2 a b) (fun i _ => n - (intOf i).toNat)
  case atStart => exact ⟨0, Nat.zero_le _, Nat.zero_le _, rfl, hO2, hB2⟩
  case round =>
    clear hO2 hB2
    obtain ⟨q, hq1, hq2, rfl, hown, hbr⟩ := hrel
    rw [← HN.out] at hq1
    rw [← HM.out] at hq2
    by_cases h1 : q < n
    · by_cases h2 : q < m
      · obtain ⟨y, b', off', hy, hyb, hA', hb', hcy⟩ := (hI'.below hbr).sl.at_ (k := q) (by rw [← HM.out]; exact h2)
        subst hA'
        obtain ⟨g, hA2, hgb, hput⟩ := hown.store (k := q) (by rw [xorP_len, ← HN.out]; exact h1)
        subst hA2
        have hc0 := hown.cell (k := q) (by rw [xorP_len, ← HN.out]; exact h1)
        rw [xorP_co (by rw [← HN.out]; exact h1)] at hc0
        have hf0 := hown.frozen q
        obtain ⟨x, hx⟩ : ∃ x, x = co a q := ⟨_, rfl⟩
        have hxb : x < 256 := by rw [hx]; exact hI.bb.co q
        rw [← hx] at hc0
        have hxor : bits .xor .u8 (x : Int) (y : Int) = ((x ^^^ y : Nat) : Int) := u8_xor_nat x y hxb hyb
        have HS := Lib.hid (hput (x ^^^ y) (Nat.xor_lt_two_pow (n := 8) hxb hyb))
        have HXY := Lib.hid (show x ^^^ y = co a q ^^^ co b q by rw [hx, co_of' hy])
        have HB3 := Lib.hid (hbr.setCell (p := ⟨g, q, none⟩) hgb (.int .u8 ((x ^^^ y : Nat) : Int)))
        have hcap := hown.cap
        rw [xorP_len, ← HN.out] at hcap
        have hcap' := hI'.cap
        rw [← HM.out] at hcap'
        clear hy hx hput hown
        go_wp2
        go_still_tail 12, (by kernel_rfl)
        change wpList _ _ _ _ _ wr.drew
        go_wp2
        go_roundw
        case rel => exact ⟨q + 1, by rw [← HN.out]; omega, by rw [← HM.out]; omega, by go_num, by have h3 := HS.out; rw [HXY.out, xorP_set] at h3; rw [HXY.out]; exact h3, ⟨HB3.out.os, HB3.out.tape, HB3.out.output, HB3.out.size, HB3.out.block⟩⟩
        case measure => simp [intOf]; omega
      · have HO := Lib.hid (show Gw.Own wr w.heap.size 5 A2 c2 (xorL a b) by rw [← xorP_done (a := a) (b := b) (q := q) (.inr (by rw [← HM.out]; omega))]; exact hown)
        clear hown
        go_wp2
        go_ret
        exact ⟨_, _, rfl, HO.out, hbr⟩
    · have HO := Lib.hid (show Gw.Own wr w.heap.size 5 A2 c2 (xorL a b) by rw [← xorP_done (a := a) (b := b) (q := q) (.inl (by rw [← HN.out]; omega))]; exact hown)
      clear hown
      go_wp2
      go_ret
      exact ⟨_, _, rfl, HO.out, hbr⟩
end Go.Proofs.Ytgikgnhpplmljaa
end
section
/- Sharing in numbers. -/
namespace Go.Proofs.Ytgikgnhpplmljaa
open Pol
theorem co_chunk (l : List Nat) (m c i : Nat) : co (chunk l m c) i = if i < m then co l (c * m + i) else 0 := by
  unfold chunk co
  by_cases h : i < m
  · simp [List.getD_eq_getElem?_getD, List.getElem?_drop, h]
  · simp [List.getD_eq_getElem?_getD, List.getElem?_take, h]
theorem chunk_bb {l : List Nat} (h : BB l) (m c : Nat) : BB (chunk l m c) := fun x hx => h x (List.mem_of_mem_drop (List.mem_of_mem_take hx))
theorem xorL_bb {a b : List Nat} (ha : BB a) (hb : BB b) : BB (xorL a b) := fun x hx => by
  obtain ⟨i, _, rfl⟩ := List.mem_map.1 hx
  exact Nat.xor_lt_two_pow (n := 8) (ha.co i) (hb.co i)
theorem co_xorL {a b : List Nat} (h : a.length = b.length) (i : Nat) : co (xorL a b) i = co a i ^^^ co b i := by
  by_cases hi : i < a.length
  · exact xorL_co hi
  · rw [co_far (by rw [xorL_len]; omega), co_far (p := a) (by omega), co_far (p := b) (by omega)]; rfl
theorem timL_bb (fac rnd : List Nat) (m c : Nat) : BB (timL fac rnd m c) := tr_bb (mul_bb _ _)
theorem timL_ev {fac rnd : List Nat} (hf : BB fac) (hr : BB rnd) {x : Nat} (hx : x < 256) (m c : Nat) : ev x (timL fac rnd m c) = Gf.gm (ev x fac) (ev x (chunk rnd m c)) := by
  rw [timL, ev_tr, ev_mul hf (chunk_bb hr m c) hx]
theorem rt_sec_bb (n k : Nat) : BB (rt (secL n k)) := rt_bb _
theorem polL_ev {n k t : Nat} {d rnd : List Nat} (hr : BB rnd) {x : Nat} (hx : x < 256) (c : Nat) : ev x (polL n k t d rnd c) = Gf.gm (ev x (rt (secL n k))) (ev x (chunk rnd t c)) ^^^ ev x (thr (secL n k) (Sp.col d k c)) := by
  rw [polL, ev_tr, ev_add (timL_bb _ _ t c) (thr_bb _ _) hx, timL_ev (rt_sec_bb n k) hr hx]
theorem ev_chunk_xor {a b : List Nat} (ha : BB a) (hb : BB b) (h : a.length = b.length) {x : Nat} (hx : x < 256) (m c : Nat) : ev x (chunk (xorL a b) m c) = ev x (chunk a m c) ^^^ ev x (chunk b m c) := by
  rw [← ev_add (chunk_bb ha m c) (chunk_bb hb m c) hx]
  refine ev_ext x fun i => ?_
  rw [co_add, co_chunk, co_chunk, co_chunk]
  by_cases hi : i < m
  · rw [if_pos hi, if_pos hi, if_pos hi, co_xorL h]
  · rw [if_neg hi, if_neg hi, if_neg hi]; rfl
theorem co_shRow (l : Nat → List Nat) {C h c : Nat} (hc : c < C) : co (shRow l C h) c = ev (h + 1) (l c) := by simp [co, shRow, hc]
theorem shRow_bb {l : Nat → List Nat} {C : Nat} (hl : ∀ c, c < C → BB (l c)) (h : Nat) : BB (shRow l C h) := fun x hx => by
  obtain ⟨c, hc, rfl⟩ := List.mem_map.1 hx
  exact ev_lt (hl c (List.mem_range.1 hc)) _
theorem shRow_xor {l1 l2 l3 : Nat → List Nat} {C h : Nat} (he : ∀ c, c < C → ev (h + 1) (l3 c) = ev (h + 1) (l1 c) ^^^ ev (h + 1) (l2 c)) : xorL (shRow l1 C h) (shRow l2 C h) = shRow l3 C h := by
  refine ext_co (by rw [xorL_len, shRow_len, shRow_len]) fun i hi => ?_
  rw [xorL_len, shRow_len] at hi
  rw [xorL_co (by rw [shRow_len]; exact hi), co_shRow _ hi, co_shRow _ hi, co_shRow _ hi, he i hi]
theorem sum_times {fac a b : List Nat} (hf : BB fac) (ha : BB a) (hb : BB b) (h : a.length = b.length) {g : Nat} (hg : g + 1 < 256) (m C : Nat) :
    xorL (shRow (timL fac a m) C g) (shRow (timL fac b m) C g) = shRow (timL fac (xorL a b) m) C g := shRow_xor fun c _ => by
  rw [timL_ev hf (xorL_bb ha hb) hg, timL_ev hf ha hg, timL_ev hf hb hg, ev_chunk_xor ha hb h hg, Gf.gm_xor_right (ev_lt hf _) (ev_lt (chunk_bb ha m c) _) (ev_lt (chunk_bb hb m c) _)]
theorem sum_share {n k t : Nat} {d a b : List Nat} (ha : BB a) (hb : BB b) (h : a.length = b.length) {g : Nat} (hg : g + 1 < 256) (C : Nat) :
    xorL (shRow (polL n k t d a) C g) (shRow (timL (rt (secL n k)) b t) C g) = shRow (polL n k t d (xorL a b)) C g := shRow_xor fun c _ => by
  have hz := rt_sec_bb n k
  rw [polL_ev (xorL_bb ha hb) hg, polL_ev ha hg, timL_ev hz hb hg, ev_chunk_xor ha hb h hg, Gf.gm_xor_right (ev_lt hz _) (ev_lt (chunk_bb ha t c) _) (ev_lt (chunk_bb hb t c) _)]
  rw [Nat.xor_assoc, Nat.xor_assoc, Nat.xor_comm (Gf.gm (ev (g + 1) (rt (secL n k))) (ev (g + 1) (chunk b t c)))]
end Go.Proofs.Ytgikgnhpplmljaa
end
section
/- Sharing in numbers: any T + K holders know each column. -/
namespace Go.Proofs.Ytgikgnhpplmljaa
open Pol
/-- Points of m holders from f on. -/
def ptL (f m : Nat) : List Nat := (List.range m).map fun j => f + 1 + j
theorem ptL_len (f m : Nat) : (ptL f m).length = m := by simp [ptL]
theorem ptL_succ (f m : Nat) : ptL f (m + 1) = ptL f m ++ [f + 1 + m] := by simp [ptL, List.range_succ]
theorem ptL_bb {f m : Nat} (h : f + m ≤ 255) : BB (ptL f m) := fun x hx => by
  obtain ⟨i, hi, rfl⟩ := List.mem_map.1 hx
  have := List.mem_range.1 hi
  omega
theorem ptL_nodup (f m : Nat) : (ptL f m).Nodup := by
  rw [List.nodup_iff_pairwise_ne, List.pairwise_iff_getElem]
  intro i j hi hj hij
  simp [ptL]
  omega
theorem secL_nodup (n k : Nat) : (secL n k).Nodup := ptL_nodup n k
/-- The values of a polynomial there. -/
def vlL (p : List Nat) (f m : Nat) : List Nat := (List.range m).map fun j => ev (f + 1 + j) p
theorem vlL_len (p : List Nat) (f m : Nat) : (vlL p f m).length = m := by simp [vlL]
theorem vlL_succ (p : List Nat) (f m : Nat) : vlL p f (m + 1) = vlL p f m ++ [ev (f + 1 + m) p] := by simp [vlL, List.range_succ]
theorem vlL_enc (p : List Nat) (f m : Nat) : vlL p f m = enc p (ptL f m) := by simp [vlL, enc, ptL]
theorem timL_dg {n k t : Nat} {rnd : List Nat} {c C : Nat} (h : C * t ≤ rnd.length) (hc : c < C) : (timL (rt (secL n k)) rnd t c).length ≤ t + k := by
  have h1 := (mul_dg (Dg.len (p := rt (secL n k)) (n := k + 1) (by rw [(rt_top _).1, secL_len]; omega)) (Dg.len (p := chunk rnd t c) (n := t) (by rw [chunk_len h hc]; omega))).tr
  unfold timL
  omega
theorem polL_dg {n k t : Nat} {d rnd : List Nat} {c C : Nat} (h : C * t ≤ rnd.length) (hc : c < C) : (polL n k t d rnd c).length ≤ t + k := by
  have h1 := timL_dg (n := n) (k := k) h hc
  have h2 := thr_len (secL n k) (Sp.col d k c)
  rw [secL_len] at h2
  have h3 := tr_len (add (timL (rt (secL n k)) rnd t c) (thr (secL n k) (Sp.col d k c)))
  rw [add_len] at h3
  unfold polL
  omega
/-- At the points of secrets it has the column. -/
theorem polL_secret {n k t : Nat} {d rnd : List Nat} (hnk : n + k ≤ 255) (hd : BB d) (hr : BB rnd) {i : Nat} (hi : i < k) (c : Nat) : ev (n + 1 + i) (polL n k t d rnd c) = co (Sp.col d k c) i := by
  have hx : n + 1 + i < 256 := by omega
  have hl : i < (secL n k).length := by rw [secL_len]; exact hi
  have he : (secL n k)[i] = n + 1 + i := by simp [secL]
  have hz : ev (n + 1 + i) (rt (secL n k)) = 0 := (ev_rt_zero (secL_bb hnk) hx).2 (by rw [← he]; exact List.getElem_mem hl)
  have ht := thr_at (ys := Sp.col d k c) (secL_bb hnk) (Sp.col_bb hd k c) (secL_nodup n k) hl
  rw [he] at ht
  rw [polL_ev hr hx, hz, Gf.gm_zero_left, ht]
  simp
theorem secret {n k t : Nat} {d rnd : List Nat} {c C f i : Nat} (h : C * t ≤ rnd.length) (hc : c < C) (hnk : n + k ≤ 255) (hf : f + (t + k) ≤ 255) (hd : BB d) (hr : BB rnd) (hi : i < k) :
    ev (n + 1 + i) (thr (ptL f (t + k)) (vlL (polL n k t d rnd c) f (t + k))) = co (Sp.col d k c) i := by
  have hb : BB (polL n k t d rnd c) := tr_bb (add_bb (timL_bb _ _ _ _) (thr_bb _ _))
  rw [vlL_enc, thr_enc hb (ptL_bb hf) (ptL_nodup _ _) (by rw [ptL_len]; exact Nat.le_trans (tr_len _) (polL_dg h hc)), ev_tr]
  exact polL_secret hnk hd hr hi c
end Go.Proofs.Ytgikgnhpplmljaa
end
section
/- A row of ints as an argument: opened. -/
namespace Gw
open Go Go.RowKit Go.Shelf Go.ChangeShapes Go.WideShapes Go.ChangeAt
/-- A row of ints that is read. -/
structure InZ (w : World) (B : Nat) (A : Option Addr) (c : Nat) (z : List Int) : Prop where
  sl : ∀ (i : Nat) (x : Int), z[i]? = some x → (Lit.int .i64 x).wf = true ∧ ∃ b off, A = some ⟨b, off, none⟩ ∧ b < B ∧ w.cell? ⟨b, off + i, none⟩ = some (.int .i64 x)
  cap : z.length ≤ c
  none_ : A = none → c = 0
theorem InZ.below {w w' : World} {B : Nat} {A : Option Addr} {c : Nat} {z : List Int} (h : InZ w B A c z) (hb : Below B w w') : InZ w' B A c z := ⟨fun i x hx => by
  obtain ⟨h0, b, off, h1, h2, h3⟩ := h.sl i x hx
  exact ⟨h0, b, off, h1, h2, (hb.cell (p := ⟨b, off + i, none⟩) h2).trans h3⟩, h.cap, h.none_⟩
theorem InZ.more {w : World} {B B' : Nat} {A : Option Addr} {c : Nat} {z : List Int} (h : InZ w B A c z) (hB : B ≤ B') : InZ w B' A c z := ⟨fun i x hx => by
  obtain ⟨h0, b, off, h1, h2, h3⟩ := h.sl i x hx
  exact ⟨h0, b, off, h1, by omega, h3⟩, h.cap, h.none_⟩
theorem open_intz {H : Type} {enc : TypeId × Value → H} {P : Program} {W : World} {t e : TypeId} {r : Reach} {base : Nat} {v : Value} {d : DataW H} {p : List MemPlace}
    (ht : P.underlying t = some (.slice e)) (he : P.underlying e = some (.int .i64)) (hc : P.cellsOf e = 1) (hok : Value.okWide P W r base t v) (h : DataW.Trod enc P W 0 (fun _ => true) true t v d p) :
    ∃ A c z, v = .slice A z.length c ∧ InZ W W.heap.size A c z ∧ ((d = .nil ∧ c = 0) ∨ ∃ el sp, d = .slice el sp ∧ el.length + sp.length = c) := by
  obtain ⟨A, len, cap, rfl⟩ := okWide_slice ht hok
  obtain ⟨fuel, hf⟩ := h
  rcases open_ints ht he hc hf with ⟨hcs, hx⟩ | ⟨a, len', cap', zs, hcs, _, hl, hm, hz, hx, hcell, hwz⟩
  · simp [Value.cells] at hcs
    obtain ⟨rfl, rfl, rfl⟩ := hcs
    injection hx with hx _
    exact ⟨none, 0, [], rfl, ⟨fun i x h => by simp at h, Nat.le_refl _, fun _ => rfl⟩, .inl ⟨hx, rfl⟩⟩
  · simp [Value.cells] at hcs
    obtain ⟨rfl, rfl, rfl⟩ := hcs
    simp only [if_true] at hz
    injection hx with hx _
    have hll : (zs.take len).length = len := by rw [List.length_take]; omega
    refine ⟨some a, cap, zs.take len, by rw [hll], ⟨?_, by omega, fun h => by cases h⟩, .inr ⟨_, _, hx, ?_⟩⟩
    · intro i x hi
      have hil : i < (zs.take len).length := (List.getElem?_eq_some_iff.1 hi).1
      have hiz : i < zs.length := by omega
      rw [List.getElem?_take, if_pos (by omega), List.getElem?_eq_getElem hiz] at hi
      injection hi with hi
      have hc0 := hcell i hiz
      have hg : zs.getD i 0 = zs[i] := by simp [List.getD, hiz]
      rw [hg, hi] at hc0
      obtain ⟨b, off, spot⟩ := a
      have hsp : spot = none := by
        have h0 := World.cell?_spot (hcell 0 (by omega))
        simpa [Addr.add] using h0
      subst hsp
      have hadd : (⟨b, off, none⟩ : Addr).add i = ⟨b, off + i, none⟩ := by
        unfold Addr.add; split
        · rename_i h0; subst h0; rfl
        · rfl
      rw [hadd] at hc0
      refine ⟨hwz x (by rw [← hi]; exact List.getElem_mem hiz), b, off, rfl, ?_, hc0⟩
      have : W.heap[b]? ≠ none := fun hn => by
        unfold World.cell? at hc0
        simp [hn] at hc0
      rcases Nat.lt_or_ge b W.heap.size with h1 | h1
      · exact h1
      · exact absurd (Array.getElem?_eq_none h1) this
    · simp [lits]; omega
theorem sized_ints {H : Type} {P : Program} {ts : List TypeId} {ds : List (DataW H)} (h : (DataW.weightsEach P ts ds).all (· ≤ reachBytes) = true) {j : Nat} {t e : TypeId} {d : DataW H} {c : Nat} (ht : ts[j]? = some t) (hd : ds[j]? = some d)
    (hu : P.underlying t = some (.slice e)) (hb : P.bytesOf e = 8) (hc : (d = .nil ∧ c = 0) ∨ ∃ el sp, d = .slice el sp ∧ el.length + sp.length = c) : c ≤ 17592186043904 := by
  rcases hc with ⟨_, rfl⟩ | ⟨el, sp, rfl, rfl⟩
  · omega
  · have := sized_slice h ht hd hu
    rw [hb] at this
    have h8 : reachBytes = 140737488351232 := rfl
    omega
end Gw
end
section
/- What the definition's own Xs (package shamrockref10) does: the points of some holders. -/
namespace Go.Proofs.Ytgikgnhpplmljaa
open Go.RowKit Go.Shelf Gw Pol
/-- The points of holders from 0 to 300. -/
def xsL (z : List Int) : List Nat := z.map fun x => ((x + 1) % 256).toNat
theorem xsL_len (z : List Int) : (xsL z).length = z.length := by simp [xsL]
theorem xsL_bb (z : List Int) : BB (xsL z) := fun x hx => by
  obtain ⟨y, _, rfl⟩ := List.mem_map.1 hx
  omega
theorem xsL_take {z : List Int} {q : Nat} {x : Int} (h : z[q]? = some x) : xsL (z.take (q + 1)) = xsL (z.take q) ++ [((x + 1) % 256).toNat] := by
  rw [List.take_add_one, h]; simp [xsL]
def XsRel (w : World) (z : List Int) (v i : Value) (wr : World) : Prop :=
  ∃ (q c : Nat) (A : Option Addr), q ≤ z.length ∧ v = .slice A q c ∧ i = .int .i64 (q : Int) ∧ Gw.Own wr w.heap.size 5 A c (xsL (z.take q)) ∧ Below w.heap.size w wr
set_option maxRecDepth 100000 in
set_option maxHeartbeats 1000000 in
theorem rxs_any (A : Option Addr) (c N : Nat) (z : List Int) (hN : N = z.length) (w : World) (hI : InZ w w.heap.size A c z) (hz : ∀ x ∈ z, 0 ≤ x ∧ x ≤ 300) (hNb : N ≤ 17592186043904) :
    Calls Try.prog 32 #[.slice A N c] w fun e w' => ∃ A2 c2, e = .returned (.slice A2 N c2) ∧ Gw.Own w' w.heap.size 5 A2 c2 (xsL z) ∧ Below w.heap.size w w' := by
  obtain ⟨i0, hi0, hz0, hz1, hz2⟩ := info_parts byte_info
  have HN := Lib.hid hN
  clear hN
  have hcap := hI.cap
  rw [← HN.out] at hcap
  go_enter Try.func32, Try.ntmps32
  go_wp2
  go_loopw [3, 4] (XsRel w z) (fun _ i _ => N - (intOf i).toNat)
  case atStart => exact ⟨0, 0, none, Nat.zero_le _, rfl, rfl, Own.none_ _ _ _, Below.refl _ _⟩
  case round =>
    obtain ⟨q, cq, Aq, hq, rfl, rfl, hown, hbel⟩ := hrel
    rw [← HN.out] at hq
    by_cases hlt : q < N
    · have hqz : q < z.length := by rw [← HN.out]; exact hlt
      obtain ⟨hwf, b, off, hA, hb, hcell⟩ := (hI.below hbel).sl q z[q] (List.getElem?_eq_getElem hqz)
      subst hA
      have hzq := hz z[q] (List.getElem_mem hqz)
      obtain ⟨x, hx⟩ : ∃ x, x = z[q] := ⟨_, rfl⟩
      rw [← hx] at hcell hzq
      obtain ⟨h1, h2⟩ := hzq
      obtain ⟨y, hy⟩ : ∃ y, y = ((x + 1) % 256).toNat := ⟨_, rfl⟩
      have hyb : y < 256 := by omega
      have e1 : IntKind.u8.wrap (x + 1) = (y : Int) := by rw [IntKind.wrap_u8]; omega
      have HT := Lib.hid (show xsL (z.take (q + 1)) = xsL (z.take q) ++ [y] by rw [xsL_take (List.getElem?_eq_getElem hqz), ← hx, hy])
      have HLE := Lib.hid (show (xsL (z.take q)).length = q by rw [xsL_len, List.length_take]; omega)
      have HOW := Lib.hid (hown.alloc (.cells #[.int .u8 (y : Int)] 5))
      have HSL := Lib.hid (Sl.one wr 5 y hyb)
      have HOWN := Lib.hid hown
      have hbs := hbel.size
      clear hx hown hy hwf
      go_wp2_with (first | (at_builtin; refine wpList_app rfl (.tmp 11) (.tmp 18) 36 rfl w.heap.size 5 i0 _ Try.underlying36 hi0 hz0 hz1 hz2 rfl Aq q cq (xsL (z.take q)) rfl HLE.out.symm HOW.out (wr.heap.size + 1) (some ⟨wr.heap.size, 0, none⟩) 1 1 [y] rfl rfl (fun h => by cases h) HSL.out (by rw [HLE.out]; simp; omega) (by rw [World.size_alloc]; omega) ?_; intro A2 cN w2 hown2 hgr2; rw [List.length_append, HLE.out]) | fail)
      have HB2 := Lib.hid (below_app hbel hbel.size HOWN.out hgr2)
      rw [← HT.out] at hown2
      have HO2 := Lib.hid hown2
      clear hown2 hgr2
      go_roundw
      case rel => exact ⟨q + 1, cN, A2, by rw [← HN.out]; omega, rfl, by go_num, HO2.out, HB2.out⟩
      case measure => simp [intOf]; omega
    · obtain rfl : q = N := by omega
      have HO := Lib.hid (show Gw.Own wr w.heap.size 5 Aq cq (xsL z) by rw [HN.out, List.take_length] at hown; exact hown)
      clear hown
      go_wp2
      go_ret
      exact ⟨_, _, rfl, HO.out, hbel⟩
end Go.Proofs.Ytgikgnhpplmljaa
end
