/- A table of rows of the call's own: rows of any lengths, each in a block of its own; the rows' slices lie in block g. -/
import Derived.Test.YtabalhhodcajmaaGrl
import Derived.Maps.AppendAt
namespace Gw
open Go Go.RowKit Go.Shelf
theorem Own.block {W W2 : World} {base c : Nat} {e : TypeId} {A : Option Addr} {l : List Nat} (h : Own W base e A c l) (hb : ∀ b o, A = some ⟨b, o, none⟩ → W2.heap[b]? = W.heap[b]?) : Own W2 base e A c l := by
  refine ⟨⟨h.1.1, ?_⟩, h.2⟩
  rcases h.1.2 with h0 | ⟨g, cap, cur, hv, hg, hgb, h0⟩
  · exact .inl h0
  · injection hv with hA hn hc
    exact .inr ⟨g, cap, cur, by rw [hA, hc], hg, (hb g 0 hA).trans hgb, h0⟩
theorem Own.other {w : World} {base c g k : Nat} {e : TypeId} {A : Option Addr} {l : List Nat} (h : Own w base e A c l) (hne : ∀ o, A ≠ some ⟨g, o, none⟩) (v : Value) : Own (w.setCell ⟨g, k, none⟩ v) base e A c l :=
  h.block fun b o e => Below.heap_setCell _ _ _ _ (fun e2 => hne o (by rw [e]; exact congrArg (fun b => some (Addr.mk b o none)) e2))
structure Otb (W : World) (base : Nat) (tb : TypeId) (g R : Nat) (pa : Nat → Option Addr) (cp : Nat → Nat) (l : Nat → List Nat) : Prop where
  out : Row W g R (fun i => .slice (pa i) (l i).length (cp i))
  row : ∀ i, i < R → Own W base tb (pa i) (cp i) (l i)
  dis : ∀ i j, i < R → j < R → i ≠ j → ∀ b o o', pa i = some ⟨b, o, none⟩ → pa j ≠ some ⟨b, o', none⟩
  ne : ∀ i, i < R → ∀ o, pa i ≠ some ⟨g, o, none⟩
  glo : base ≤ g ∧ g < W.heap.size
def upd {α : Type} (f : Nat → α) (i : Nat) (x : α) : Nat → α := fun j => if j = i then x else f j
theorem upd_same {α : Type} (f : Nat → α) (i : Nat) (x : α) : upd f i x i = x := by simp [upd]
theorem upd_other {α : Type} {f : Nat → α} {i j : Nat} {x : α} (h : j ≠ i) : upd f i x j = f j := by simp [upd, h]
section
variable {W W2 : World} {base g R : Nat} {tb : TypeId} {pa : Nat → Option Addr} {cp : Nat → Nat} {l : Nat → List Nat}
theorem Otb.below (h : Otb W base tb g R pa cp l) (hb : Below W.heap.size W W2) : Otb W2 base tb g R pa cp l :=
  ⟨h.out.below hb h.glo.2, fun i hi => (h.row i hi).kept hb, h.dis, h.ne, h.glo.1, Nat.lt_of_lt_of_le h.glo.2 hb.size⟩
theorem Otb.min (h : Otb W base tb g R pa cp l) (c : Nat) (hc : R ≤ c) : MIn W W.heap.size (some ⟨g, 0, none⟩) c R pa cp l :=
  ⟨fun i hi => ⟨g, 0, rfl, h.glo.2, by rw [Nat.zero_add]; exact (h.out i hi).1, (h.row i hi).inn⟩, hc, fun e => by cases e⟩
theorem Otb.congr {m : Nat → List Nat} (h : Otb W base tb g R pa cp l) (e : ∀ i, i < R → l i = m i) : Otb W base tb g R pa cp m :=
  ⟨h.out.congr fun i hi => by rw [e i hi], fun i hi => by rw [← e i hi]; exact h.row i hi, h.dis, h.ne, h.glo⟩
/-- 'make([][]byte, R)'. -/
theorem Otb.made (w : World) (te tb : TypeId) (R base : Nat) (hb : base ≤ w.heap.size) : Otb (w.alloc (.cells (madeCells #[.slice none 0 0] R) te)) base tb w.heap.size R (fun _ => none) (fun _ => 0) (fun _ => []) := by
  refine ⟨fun o ho => ⟨?_, World.frozen?_alloc_new w _ te o⟩, fun i _ => Own.none_ _ _ _, fun i j _ _ _ b o o' e => (by cases e), fun i _ o e => (by cases e), hb, by simp⟩
  rw [World.cell?_alloc_new w _ te o]
  simp [madeCells, ho, Nat.mod_one]
/-- Row i is another one. -/
theorem Otb.turn (h : Otb W base tb g R pa cp l) {i : Nat} (hi : i < R) (hs : W.heap.size ≤ W2.heap.size) (hblk : ∀ b, b < W.heap.size → (∀ o, pa i ≠ some ⟨b, o, none⟩) → W2.heap[b]? = W.heap[b]?)
    {A2 : Option Addr} {c2 : Nat} {L2 : List Nat} (hown : Own W2 base tb A2 c2 L2) (hloc : ∀ b o, A2 = some ⟨b, o, none⟩ → W.heap.size ≤ b ∨ ∃ o', pa i = some ⟨b, o', none⟩) (n2 : Nat) (hn2 : n2 = L2.length) :
    Otb (W2.setCell ⟨g, i, none⟩ (.slice A2 n2 c2)) base tb g R (upd pa i A2) (upd cp i c2) (upd l i L2) := by
  subst hn2
  have hg := h.glo
  have hneA : ∀ o, A2 ≠ some ⟨g, o, none⟩ := fun o e => by
    rcases hloc g o e with h1 | ⟨o', h1⟩
    · omega
    · exact h.ne i hi o' h1
  have hlt : ∀ j, j < R → ∀ b o, pa j = some ⟨b, o, none⟩ → b < W.heap.size := fun j hj b o e => by
    have := h.row j hj
    rw [e] at this
    exact this.lt.2
  have hgb : W2.heap[g]? = W.heap[g]? := hblk g hg.2 (h.ne i hi)
  have hout : Row W2 g R (fun i => .slice (pa i) (l i).length (cp i)) := fun o ho =>
    ⟨(World.cell?_of_block (w := W) (a := ⟨g, o, none⟩) hgb).trans (h.out o ho).1, (World.frozen?_of_block (w := W) (a := ⟨g, o, none⟩) hgb).trans (h.out o ho).2⟩
  refine ⟨(hout.set hi _).congr fun j hj => ?_, fun j hj => ?_, fun j m hj hm hjm b o o' e1 e2 => ?_, fun j hj o e => ?_, hg.1, by simp [World.setCell]; omega⟩
  · by_cases e : j = i
    · subst e; simp [upd]
    · simp [upd, e]
  · by_cases e : j = i
    · subst e; rw [upd_same, upd_same, upd_same]; exact hown.other hneA _
    · rw [upd_other e, upd_other e, upd_other e]
      refine Own.other ((h.row j hj).block fun b o eb => hblk b (hlt j hj b o eb) fun o' e2 => h.dis j i hj hi e b o o' eb e2) (h.ne j hj) _
  · by_cases e3 : j = i
    · subst e3
      rw [upd_same] at e1
      rw [upd_other (fun e => hjm e.symm)] at e2
      rcases hloc b o e1 with h1 | ⟨o2, h1⟩
      · have := hlt m hm b o' e2; omega
      · exact h.dis j m hj hm hjm b o2 o' h1 e2
    · rw [upd_other e3] at e1
      by_cases e4 : m = i
      · subst e4
        rw [upd_same] at e2
        rcases hloc b o' e2 with h1 | ⟨o2, h1⟩
        · have := hlt j hj b o e1; omega
        · exact h.dis m j hm hj (fun e => hjm e.symm) b o2 o h1 e1
      · rw [upd_other e4] at e2
        exact h.dis j m hj hm hjm b o o' e1 e2
  · by_cases e3 : j = i
    · subst e3; rw [upd_same] at e; exact hneA o e
    · rw [upd_other e3] at e; exact h.ne j hj o e
/-- .. one that a call has made. -/
theorem Otb.store (h : Otb W base tb g R pa cp l) {i : Nat} (hi : i < R) (hb : Below W.heap.size W W2) {A2 : Option Addr} {c2 : Nat} {L2 : List Nat} (hown : Own W2 W.heap.size tb A2 c2 L2) (hbase : base ≤ W.heap.size) (n2 : Nat) (hn2 : n2 = L2.length) :
    Otb (W2.setCell ⟨g, i, none⟩ (.slice A2 n2 c2)) base tb g R (upd pa i A2) (upd cp i c2) (upd l i L2) :=
  h.turn hi hb.size (fun b hb1 _ => hb.block b hb1) (hown.base hbase) (fun b o e => .inl (by rw [e] at hown; exact hown.lt.1)) n2 hn2
/-- Rows that were appended one by one. -/
theorem GrowL.otb {w wr : World} {te : TypeId} {v : Value} (h : GrowL w wr te tb v R pa cp l) (hne : te ≠ tb) (hR : 0 < R) : ∃ g c, v = .slice (some ⟨g, 0, none⟩) R c ∧ R ≤ c ∧ Otb wr w.heap.size tb g R pa cp l := by
  obtain ⟨g, c, hv, hc, hg1, hg2, hcell⟩ := h.cell hR
  refine ⟨g, c, hv, hc, ⟨fun i hi => hcell i hi, h.row, h.dis, fun i hi o e => ?_, hg1, hg2⟩⟩
  have h1 := h.row i hi
  rw [e] at h1
  refine tag_ne h.own h1 hne ?_
  rw [hv]; rfl
end
/-- 'append' onto a row of one's own; where the answer lies. -/
theorem run_app_at {P : Program} {w : World} (t ty : TypeId) (base : Nat) (e : TypeId) (i : TypeInfo) (z : Value) (ht : P.underlying t = some (.slice e)) (hi : P.info? e = some i) (hz : i.zero = some z)
    (hsize : i.size = 1) (hby : i.bytes = 1) (hzs : z.cells.size = 1)
    (A : Option Addr) (n c : Nat) (l : List Nat) (hn : n = l.length) (hown : Own w base e A c l)
    (B : Nat) (ad : Addr) (m c' : Nat) (l' : List Nat) (hm : m = l'.length) (hr : Sl w B (some ad) l')
    (hbytes : l.length + l'.length ≤ 140737488355328) (hbase : base ≤ w.heap.size) :
    ∃ A2 c2 w', (Builtin.append_ #[t, t] ty #[.slice A n c, .slice (some ad) m c']).run P w = .ok (.slice A2 (l ++ l').length c2) w' ∧ Own w' base e A2 c2 (l ++ l') ∧ w.grownBy w' (Value.slice A n c).ownBlock ∧
      ∀ b o, A2 = some ⟨b, o, none⟩ → w.heap.size ≤ b ∨ ∃ o', A = some ⟨b, o', none⟩ := by
  subst hn hm
  obtain ⟨v', w', hrun, h2, h3, _, h4⟩ := run_append_own_at (P := P) w base t ty e i z 1 1 ht hi hz hsize hby hzs (by omega) _ _ _ hown.1 ad l'.length c' (bys l') (by rw [bys_len, Nat.mul_one]) (fun j u hj => by
    obtain ⟨y, hy, rfl⟩ := bys_get hj
    obtain ⟨_, b, off, hb, _, hcell⟩ := hr j y hy
    injection hb with hb
    subst hb
    rw [addr_add]; exact hcell) (bys_one l') (by simp only [maxLen]; omega) (by omega) hbase
  rw [← bys_app] at h2
  obtain ⟨A2, c2, hv, ho2⟩ := Own.mk' h2 (hown.2.append hr.bb)
  subst hv
  refine ⟨A2, c2, w', hrun, ho2, h3, fun b o e => ?_⟩
  subst e
  rcases h4 with h4 | h4
  · right
    cases A with
    | none => simp [Value.ownBlock] at h4
    | some a =>
      obtain ⟨b', o', sp⟩ := a
      rcases hown.1.2 with ⟨hv, _⟩ | ⟨g2, cap, cur, hv, _⟩
      · injection hv with h1; cases h1
      · injection hv with h1
        injection h1 with h1
        injection h1 with h2 h3 h5
        subst h2 h3 h5
        simp [Value.ownBlock] at h4
        exact ⟨0, by rw [h4]⟩
  · left
    simp [Value.ownBlock] at h4
    omega
theorem step_app_at {P : Program} {w : World} {ops : Array Oper} {o : Oper} {a : Act} {K : Act → World → Prop} {Q : Exit → Act → World → Prop} {E : Prop} (hgd : o.guard = none) (s x : Operand) (t : TypeId)
    (ho : o.op = .call { callee := .builtin .append, args := #[s, x], argTypes := #[t, t] })
    (base : Nat) (e : TypeId) (i : TypeInfo) (z : Value) (ht : P.underlying t = some (.slice e)) (hi : P.info? e = some i) (hz : i.zero = some z)
    (hsize : i.size = 1) (hby : i.bytes = 1) (hzs : z.cells.size = 1)
    (A : Option Addr) (n c : Nat) (l : List Nat) (hs : a.eval s = .slice A n c) (hn : n = l.length) (hown : Own w base e A c l)
    (B : Nat) (ad : Addr) (m c' : Nat) (l' : List Nat) (hx : a.eval x = .slice (some ad) m c') (hm : m = l'.length) (hr : Sl w B (some ad) l')
    (hbytes : l.length + l'.length ≤ 140737488355328) (hbase : base ≤ w.heap.size)
    (h : ∀ A2 c2 w', Own w' base e A2 c2 (l ++ l') → w.grownBy w' (Value.slice A n c).ownBlock → (∀ b o, A2 = some ⟨b, o, none⟩ → w.heap.size ≤ b ∨ ∃ o', A = some ⟨b, o', none⟩) → K (a.put o.dst (.slice A2 (l ++ l').length c2)) w') :
    if Region.wanted o (yielded ops a.tmps) = true then Oper.wp P o a w K Q else E := by
  have hw : Region.wanted o (yielded ops a.tmps) = true := by simp [Region.wanted, hgd]
  rw [if_pos hw]
  obtain ⟨A2, c2, w', hrun, h2, h3, h4⟩ := run_app_at (P := P) t o.type base e i z ht hi hz hsize hby hzs A n c l hn hown B ad m c' l' hm hr hbytes hbase
  unfold Oper.wp execOp
  simp only [ho, resolve, invoke, builtin, Sem.run_bind, Sem.run_pure, Result.andThen_ok, List.map_toArray, List.map_cons, List.map_nil, hs, hx, hrun]
  exact h A2 c2 w' h2 h3 h4
theorem Own.at0 {w : World} {base n c b : Nat} {e : TypeId} {A : Option Addr} {l : List Nat} (h : Own w base e A c l) (hb : (Value.slice A n c).ownBlock = some b) : A = some ⟨b, 0, none⟩ := by
  rcases h.1.2 with ⟨hv, _⟩ | ⟨g, cap, cur, hv, _⟩
  · injection hv with h1; subst h1; cases hb
  · injection hv with h1
    subst h1
    simp [Value.ownBlock] at hb
    rw [hb]
/-- Row i, onto which bytes were appended, is stored. -/
theorem Otb.app {W W2 : World} {base g R : Nat} {tb : TypeId} {pa : Nat → Option Addr} {cp : Nat → Nat} {l : Nat → List Nat} (h : Otb W base tb g R pa cp l) {i : Nat} (hi : i < R) (ob : Obj) {n : Nat}
    (hgr : ((W.alloc ob).drew).grownBy W2 (Value.slice (pa i) n (cp i)).ownBlock) {A2 : Option Addr} {c2 : Nat} {L2 : List Nat} (hown : Own W2 base tb A2 c2 L2)
    (hloc : ∀ b o, A2 = some ⟨b, o, none⟩ → (W.alloc ob).drew.heap.size ≤ b ∨ ∃ o', pa i = some ⟨b, o', none⟩) :
    W2.cell? ⟨g, i, none⟩ = some (.slice (pa i) (l i).length (cp i)) ∧ W2.frozen? ⟨g, i, none⟩ = false ∧
    ∀ n2, n2 = L2.length → Otb (W2.setCell ⟨g, i, none⟩ (.slice A2 n2 c2)) base tb g R (upd pa i A2) (upd cp i c2) (upd l i L2) ∧ Below base W (W2.setCell ⟨g, i, none⟩ (.slice A2 n2 c2)) := by
  have hsz : (W.alloc ob).drew.heap.size = W.heap.size + 1 := by show (W.alloc ob).heap.size = _; rw [World.size_alloc]
  have hold : ∀ b, b < W.heap.size → (W.alloc ob).drew.heap[b]? = W.heap[b]? := fun b hb => by
    show (W.alloc ob).heap[b]? = _
    exact Below.heap_alloc _ _ _ hb
  have hblk : ∀ b, b < W.heap.size → (∀ o, pa i ≠ some ⟨b, o, none⟩) → W2.heap[b]? = W.heap[b]? := fun b hb hne =>
    (hgr.block b (by omega) (fun e => hne 0 ((h.row i hi).at0 e.symm))).trans (hold b hb)
  have hgb := hblk g h.glo.2 (h.ne i hi)
  refine ⟨(World.cell?_of_block (w := W) (a := ⟨g, i, none⟩) hgb).trans (h.out i hi).1, (World.frozen?_of_block (w := W) (a := ⟨g, i, none⟩) hgb).trans (h.out i hi).2, fun n2 hn2 => ⟨?_, ?_⟩⟩
  · refine h.turn hi (by have := hgr.size; omega) hblk hown (fun b o e => ?_) n2 hn2
    rcases hloc b o e with h1 | h1
    · left; omega
    · exact .inr h1
  · have hb : Below base W W2 := by
      refine ⟨hgr.os, hgr.tape, hgr.output, by have := hgr.size; omega, fun b hb => ?_⟩
      have := h.glo
      exact hblk b (by omega) fun o e => by have h1 := h.row i hi; rw [e] at h1; have := h1.lt.1; omega
    exact hb.setCell (p := ⟨g, i, none⟩) h.glo.1 _
end Gw
