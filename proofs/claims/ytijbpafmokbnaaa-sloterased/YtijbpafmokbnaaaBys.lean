/- Slices of bytes, as the walks of this claim speak of them: one that reads as a list of numbers (nil let in), one that the call itself has made, and what append makes of the two. -/
import Derived.Laws.AppendOwnNone
import Derived.Maps.AppendAt
import Derived.Laws.CopyOwn
import Derived.Laws.BytesArg
import Derived.Deep.RegionHeld3
import Derived.StillTailTactics
import Derived.Deep.RegionLaw
import Derived.Deep.OwnRows
import Derived.Test.YtijbpafmokbnaaaBase
import Derived.Test.YtijbpafmokbnaaaPol
namespace Gw
open Go Go.RowKit Go.Shelf

/-- Bytes as values. -/
def bys (l : List Nat) : List Value := l.map (fun (x : Nat) => Value.int .u8 (x : Int))
theorem bys_len (l : List Nat) : (bys l).length = l.length := by simp [bys]
theorem bys_app (l m : List Nat) : bys (l ++ m) = bys l ++ bys m := by simp [bys]
theorem bys_one (l : List Nat) : ∀ u ∈ bys l, u.oneCell' = true := fun u hu => by
  obtain ⟨x, _, rfl⟩ := List.mem_map.1 hu; rfl
theorem bys_get {l : List Nat} {j : Nat} {u : Value} (h : (bys l)[j]? = some u) : ∃ x, l[j]? = some x ∧ u = .int .u8 (x : Int) := by
  simp only [bys, List.getElem?_map, Option.map_eq_some_iff] at h
  obtain ⟨x, hx, rfl⟩ := h; exact ⟨x, hx, rfl⟩
theorem bys_at {l : List Nat} {j : Nat} {x : Nat} (h : l[j]? = some x) : (bys l)[j]? = some (.int .u8 (x : Int)) := by simp [bys, h]
theorem bys_set (l : List Nat) (j x : Nat) : (bys l).set j (.int .u8 (x : Int)) = bys (l.set j x) := by simp [bys, List.map_set]

/-- The slice at A reads as l; it lies below block B. -/
def Sl (w : World) (B : Nat) (A : Option Addr) (l : List Nat) : Prop :=
  ∀ (i x : Nat), l[i]? = some x → x < 256 ∧ ∃ b off, A = some ⟨b, off, none⟩ ∧ b < B ∧ w.cell? ⟨b, off + i, none⟩ = some (.int .u8 (x : Int))
theorem Sl.nil {w : World} {B : Nat} {A : Option Addr} : Sl w B A [] := fun i x h => by simp at h
theorem Sl.bb {w : World} {B : Nat} {A : Option Addr} {l : List Nat} (h : Sl w B A l) : Pol.BB l := fun x hx => by
  obtain ⟨i, hi⟩ := List.getElem?_of_mem hx; exact (h i x hi).1
theorem Sl.at_ {w : World} {B : Nat} {A : Option Addr} {l : List Nat} (h : Sl w B A l) {k : Nat} (hk : k < l.length) :
    ∃ x b off, l[k]? = some x ∧ x < 256 ∧ A = some ⟨b, off, none⟩ ∧ b < B ∧ w.cell? ⟨b, off + k, none⟩ = some (.int .u8 (x : Int)) := by
  have e := List.getElem?_eq_getElem hk
  obtain ⟨h1, b, off, h2, h3, h4⟩ := h k _ e
  exact ⟨_, b, off, e, h1, h2, h3, h4⟩
theorem Sl.keep {w w' : World} {B : Nat} {A : Option Addr} {l : List Nat} (h : Sl w B A l) (hk : ∀ p : Addr, p.block < B → w'.cell? p = w.cell? p) : Sl w' B A l := fun i x hx => by
  obtain ⟨h1, b, off, h2, h3, h4⟩ := h i x hx
  exact ⟨h1, b, off, h2, h3, (hk ⟨b, off + i, none⟩ h3).trans h4⟩
theorem Sl.more {w : World} {B B' : Nat} {A : Option Addr} {l : List Nat} (h : Sl w B A l) (hB : B ≤ B') : Sl w B' A l := fun i x hx => by
  obtain ⟨h1, b, off, h2, h3, h4⟩ := h i x hx
  exact ⟨h1, b, off, h2, by omega, h4⟩
theorem Sl.below {w w' : World} {B : Nat} {A : Option Addr} {l : List Nat} (h : Sl w B A l) (hb : Below B w w') : Sl w' B A l := h.keep fun _ hp => hb.cell hp
theorem Sl.drewN {w : World} {B : Nat} {A : Option Addr} {l : List Nat} (h : Sl w B A l) (n : Nat) : Sl (w.drewN n) B A l := h
theorem Sl.alloc {w : World} {B : Nat} {A : Option Addr} {l : List Nat} (h : Sl w B A l) (hB : B ≤ w.heap.size) (o : Obj) : Sl (w.alloc o) B A l := h.keep fun p hp => World.cell?_alloc_lt w o p (by omega)
theorem Sl.take {w : World} {B : Nat} {A : Option Addr} {l : List Nat} (h : Sl w B A l) (n : Nat) : Sl w B A (l.take n) := fun i x hx => by
  rw [List.getElem?_take] at hx
  split at hx
  · exact h i x hx
  · cases hx
theorem Sl.drop {w : World} {B : Nat} {A : Option Addr} {l : List Nat} (h : Sl w B A l) (n : Nat) : Sl w B (A.map (fun a => ⟨a.block, a.off + n, a.spot⟩)) (l.drop n) := fun i x hx => by
  rw [List.getElem?_drop] at hx
  obtain ⟨h1, b, off, h2, h3, h4⟩ := h _ x hx
  subst h2
  exact ⟨h1, b, off + n, rfl, h3, by rw [Nat.add_assoc]; exact h4⟩

/-- The slice at A, of capacity c, is the call's own (from block 'base' on) and holds l. e: byte's number among the types. -/
def Own (w : World) (base : Nat) (e : TypeId) (A : Option Addr) (c : Nat) (l : List Nat) : Prop :=
  w.ownsRow base e 1 (.slice A l.length c) l.length (bys l) ∧ Pol.BB l
theorem Own.sl {w : World} {base : Nat} {e : TypeId} {A : Option Addr} {c : Nat} {l : List Nat} (h : Own w base e A c l) : Sl w w.heap.size A l := fun i x hx => by
  refine ⟨h.2 x (List.mem_of_getElem? hx), ?_⟩
  have hi : i < l.length := (List.getElem?_eq_some_iff.1 hx).1
  rcases h.1.2 with ⟨_, h0⟩ | ⟨g, cap, cur, hv, hb, hg, hnc, hm, hs, ht⟩
  · omega
  · injection hv with hA hn hc
    subst hA hc
    refine ⟨g, 0, rfl, (Array.getElem?_eq_some_iff.1 hg).1, ?_⟩
    rw [Nat.zero_add, h.1.cellAt i (by omega)]
    exact bys_at hx
theorem Own.cap {w : World} {base : Nat} {e : TypeId} {A : Option Addr} {c : Nat} {l : List Nat} (h : Own w base e A c l) : l.length ≤ c := by
  rcases h.1.2 with ⟨hv, h0⟩ | ⟨g, cap, cur, hv, hb, hg, hnc, hm, hs, ht⟩
  · omega
  · injection hv with hA hn hc; omega
theorem Own.alloc {w : World} {base : Nat} {e : TypeId} {A : Option Addr} {c : Nat} {l : List Nat} (h : Own w base e A c l) (o : Obj) : Own (w.alloc o) base e A c l := ⟨h.1.alloc o, h.2⟩
theorem Own.drewN {w : World} {base : Nat} {e : TypeId} {A : Option Addr} {c : Nat} {l : List Nat} (h : Own w base e A c l) (n : Nat) : Own (w.drewN n) base e A c l := h
theorem Own.mk' {w : World} {base : Nat} {e : TypeId} {v : Value} {n : Nat} {l : List Nat} (h : w.ownsRow base e 1 v n (bys l)) (hb : Pol.BB l) : ∃ A c, v = .slice A l.length c ∧ Own w base e A c l := by
  have hn : n = l.length := by have := h.1; rw [bys_len] at this; omega
  subst hn
  rcases h.2 with ⟨hv, h0⟩ | ⟨g, cap, cur, hv, _⟩
  · subst hv; exact ⟨none, 0, by rw [h0], by rw [h0] at h; exact by rw [h0]; exact h, hb⟩
  · subst hv; exact ⟨_, cap, rfl, h, hb⟩
theorem Own.kept {w w' : World} {base : Nat} {e : TypeId} {A : Option Addr} {c : Nat} {l : List Nat} (h : Own w base e A c l) (hb : Below w.heap.size w w') : Own w' base e A c l := by
  refine ⟨h.1.kept (row := none) ⟨hb.os, hb.tape, hb.output, hb.size, fun k hk _ => hb.block k hk⟩ ?_, h.2⟩
  cases A with
  | none => exact .inl rfl
  | some a => exact .inr (by simp [Value.ownBlock])
theorem Own.base {w : World} {base base' : Nat} {e : TypeId} {A : Option Addr} {c : Nat} {l : List Nat} (h : Own w base e A c l) (hb : base' ≤ base) : Own w base' e A c l := by
  refine ⟨⟨h.1.1, ?_⟩, h.2⟩
  rcases h.1.2 with h0 | ⟨g, cap, cur, hv, hg, h0⟩
  · exact .inl h0
  · exact .inr ⟨g, cap, cur, hv, by omega, h0⟩
theorem Own.none_ (w : World) (base : Nat) (e : TypeId) : Own w base e none 0 [] := ⟨World.ownsRow_nil w base e 1, Pol.BB.nil⟩
/-- '[]byte{}'. -/
theorem Own.lit0 (w : World) (base : Nat) (e : TypeId) (hb : base ≤ w.heap.size) : Own (w.alloc (.cells #[] e)) base e (some ⟨w.heap.size, 0, none⟩) 0 [] :=
  ⟨World.ownsRow_made w #[] 0 hb (by simp [maxLen]) rfl, Pol.BB.nil⟩

/-- A slice of bytes that may be handed on: it reads as l, its capacity c is no less, and nil has none. -/
structure In (w : World) (B : Nat) (A : Option Addr) (c : Nat) (l : List Nat) : Prop where
  sl : Sl w B A l
  cap : l.length ≤ c
  none_ : A = none → c = 0
theorem In.below {w w' : World} {B : Nat} {A : Option Addr} {c : Nat} {l : List Nat} (h : In w B A c l) (hb : Below B w w') : In w' B A c l := ⟨h.sl.below hb, h.cap, h.none_⟩
theorem In.more {w : World} {B B' : Nat} {A : Option Addr} {c : Nat} {l : List Nat} (h : In w B A c l) (hB : B ≤ B') : In w B' A c l := ⟨h.sl.more hB, h.cap, h.none_⟩
theorem In.drewN {w : World} {B : Nat} {A : Option Addr} {c : Nat} {l : List Nat} (h : In w B A c l) (n : Nat) : In (w.drewN n) B A c l := ⟨h.sl.drewN n, h.cap, h.none_⟩
theorem In.alloc {w : World} {B : Nat} {A : Option Addr} {c : Nat} {l : List Nat} (h : In w B A c l) (hB : B ≤ w.heap.size) (o : Obj) : In (w.alloc o) B A c l := ⟨h.sl.alloc hB o, h.cap, h.none_⟩
theorem In.bb {w : World} {B : Nat} {A : Option Addr} {c : Nat} {l : List Nat} (h : In w B A c l) : Pol.BB l := h.sl.bb
theorem Own.inn {w : World} {base : Nat} {e : TypeId} {A : Option Addr} {c : Nat} {l : List Nat} (h : Own w base e A c l) : In w w.heap.size A c l := by
  refine ⟨h.sl, h.cap, fun hA => ?_⟩
  subst hA
  rcases h.1.2 with ⟨hv, _⟩ | ⟨g, cap, cur, hv, _⟩
  · injection hv
  · injection hv with hA; cases hA

/-- A new block of one byte, as a slice. -/
theorem Sl.one (w : World) (e : TypeId) (y : Nat) (hy : y < 256) : Sl (w.alloc (.cells #[.int .u8 (y : Int)] e)) (w.heap.size + 1) (some ⟨w.heap.size, 0, none⟩) [y] := fun i x hx => by
  cases i with
  | zero => simp at hx; subst hx; exact ⟨hy, _, 0, rfl, by omega, World.cell?_alloc_new w #[.int .u8 (y : Int)] e 0⟩
  | succ i => simp at hx
theorem take_snoc {l : List Nat} {k y : Nat} (h : l[k]? = some y) : l.take k ++ [y] = l.take (k + 1) := by rw [List.take_add_one, h]; rfl

theorem own_any {A : Option Addr} {n c m k : Nat} (h : (Value.slice A n c).ownBlock = some k) : (Value.slice A m c).ownBlock = some k := by
  cases A with
  | none => cases h
  | some a => exact h
/-- Nothing old is turned by an append onto what the call has made. -/
theorem below_app {w wr w2 : World} {base : Nat} {e : TypeId} {A : Option Addr} {n c : Nat} {l : List Nat} {o : Obj} (hb : Below base w wr) (hs : base ≤ wr.heap.size) (ho : Own wr base e A c l)
    (hg : (wr.alloc o).grownBy w2 (Value.slice A n c).ownBlock) : Below base w w2 :=
  (hb.alloc hs o).grown hg (by simp; omega) (fun k hk => (ho.1.lt k (own_any hk)).1)
theorem below_app0 {w wr w2 : World} {base : Nat} {e : TypeId} {A : Option Addr} {n c : Nat} {l : List Nat} (hb : Below base w wr) (hs : base ≤ wr.heap.size) (ho : Own wr base e A c l)
    (hg : wr.grownBy w2 (Value.slice A n c).ownBlock) : Below base w w2 :=
  hb.grown hg hs (fun k hk => (ho.1.lt k (own_any hk)).1)

/-- The same, onto '[]byte{}' inside a region that leaves its order open. -/
theorem below_lit {w wr w2 : World} {base : Nat} {e : TypeId} (hb : Below base w wr) (hs : base ≤ wr.heap.size) (hg : (wr.alloc (.cells #[] e)).drew.grownBy w2 (Value.slice (some ⟨wr.heap.size, 0, none⟩) 0 0).ownBlock) : Below base w w2 :=
  ((hb.alloc hs (.cells #[] e)).drew).grown hg (by show base ≤ (wr.alloc _).heap.size; simp; omega) (fun k hk => by simp [Value.ownBlock] at hk; omega)

theorem below_lit' {w wr w2 : World} {base : Nat} {e : TypeId} (hb : Below base w wr) (hs : base ≤ wr.heap.size) (hg : (wr.alloc (.cells #[] e)).grownBy w2 (Value.slice (some ⟨wr.heap.size, 0, none⟩) 0 0).ownBlock) : Below base w w2 :=
  (hb.alloc hs (.cells #[] e)).grown hg (by simp; omega) (fun k hk => by simp [Value.ownBlock] at hk; omega)

/-- What append answers: some slice of the call's own, that holds both. -/
theorem run_app {P : Program} {w : World} (t ty : TypeId) (base : Nat) (e : TypeId) (i : TypeInfo) (z : Value) (ht : P.underlying t = some (.slice e)) (hi : P.info? e = some i) (hz : i.zero = some z)
    (hsize : i.size = 1) (hby : i.bytes = 1) (hzs : z.cells.size = 1)
    (A : Option Addr) (n c : Nat) (l : List Nat) (hn : n = l.length) (hown : Own w base e A c l)
    (B : Nat) (A' : Option Addr) (m c' : Nat) (l' : List Nat) (hm : m = l'.length) (hc' : A' = none → c' = 0) (hr : Sl w B A' l')
    (hbytes : l.length + l'.length ≤ 140737488355328) (hbase : base ≤ w.heap.size) :
    ∃ A2 c2 w', (Builtin.append_ #[t, t] ty #[.slice A n c, .slice A' m c']).run P w = .ok (.slice A2 (l ++ l').length c2) w' ∧ Own w' base e A2 c2 (l ++ l') ∧ w.grownBy w' (Value.slice A n c).ownBlock := by
  subst hn hm
  cases A' with
  | none =>
    have h0 : l' = [] := by
      cases l' with
      | nil => rfl
      | cons y l' => obtain ⟨_, b, off, hb, _⟩ := hr 0 y rfl; cases hb
    subst h0
    have hc0 := hc' rfl
    subst hc0
    have hrun := run_append_owned_none (P := P) (w := w) base t ty e i 1 ht hi _ _ _ hown.1
    exact ⟨A, c, w, by simpa using hrun, by simpa using hown, World.grownBy.refl w _⟩
  | some ad =>
    obtain ⟨v', w', hrun, h2, h3, _⟩ := run_append_own_at (P := P) w base t ty e i z 1 1 ht hi hz hsize hby hzs (by omega) _ _ _ hown.1 ad l'.length c' (bys l') (by rw [bys_len, Nat.mul_one]) (fun j u hj => by
      obtain ⟨y, hy, rfl⟩ := bys_get hj
      obtain ⟨_, b, off, hb, _, hcell⟩ := hr j y hy
      injection hb with hb
      subst hb
      have e1 : (⟨b, off, none⟩ : Addr).add j = ⟨b, off + j, none⟩ := by
        unfold Addr.add; split
        · rename_i h0; subst h0; rfl
        · rfl
      rw [e1]; exact hcell) (bys_one l') (by simp only [maxLen]; omega) (by omega) hbase
    rw [← bys_app] at h2
    obtain ⟨A2, c2, hv, ho2⟩ := Own.mk' h2 (hown.2.append hr.bb)
    subst hv
    exact ⟨A2, c2, w', hrun, ho2, h3⟩
theorem wp_app {P : Program} {w : World} {o : Oper} {a : Act} {K : Act → World → Prop} {Q : Exit → Act → World → Prop} (s x : Operand) (t : TypeId)
    (ho : o.op = .call { callee := .builtin .append, args := #[s, x], argTypes := #[t, t] })
    (base : Nat) (e : TypeId) (i : TypeInfo) (z : Value) (ht : P.underlying t = some (.slice e)) (hi : P.info? e = some i) (hz : i.zero = some z)
    (hsize : i.size = 1) (hby : i.bytes = 1) (hzs : z.cells.size = 1)
    (A : Option Addr) (n c : Nat) (l : List Nat) (hs : a.eval s = .slice A n c) (hn : n = l.length) (hown : Own w base e A c l)
    (B : Nat) (A' : Option Addr) (m c' : Nat) (l' : List Nat) (hx : a.eval x = .slice A' m c') (hm : m = l'.length) (hc' : A' = none → c' = 0) (hr : Sl w B A' l')
    (hbytes : l.length + l'.length ≤ 140737488355328) (hbase : base ≤ w.heap.size)
    (h : ∀ A2 c2 w', Own w' base e A2 c2 (l ++ l') → w.grownBy w' (Value.slice A n c).ownBlock → K (a.put o.dst (.slice A2 (l ++ l').length c2)) w') : o.wp P a w K Q := by
  obtain ⟨A2, c2, w', hrun, h2, h3⟩ := run_app (P := P) t o.type base e i z ht hi hz hsize hby hzs A n c l hn hown B A' m c' l' hm hc' hr hbytes hbase
  unfold Oper.wp execOp
  simp only [ho, resolve, invoke, builtin, Sem.run_bind, Sem.run_pure, Result.andThen_ok, List.map_toArray, List.map_cons, List.map_nil, hs, hx, hrun]
  exact h A2 c2 w' h2 h3
theorem wpList_app {P : Program} {w : World} {ops : Array Oper} {rest : List Oper} {o : Oper} {a : Act} {Q : Exit → Act → World → Prop} (hgd : o.guard = none) (s x : Operand) (t : TypeId)
    (ho : o.op = .call { callee := .builtin .append, args := #[s, x], argTypes := #[t, t] })
    (base : Nat) (e : TypeId) (i : TypeInfo) (z : Value) (ht : P.underlying t = some (.slice e)) (hi : P.info? e = some i) (hz : i.zero = some z)
    (hsize : i.size = 1) (hby : i.bytes = 1) (hzs : z.cells.size = 1)
    (A : Option Addr) (n c : Nat) (l : List Nat) (hs : a.eval s = .slice A n c) (hn : n = l.length) (hown : Own w base e A c l)
    (B : Nat) (A' : Option Addr) (m c' : Nat) (l' : List Nat) (hx : a.eval x = .slice A' m c') (hm : m = l'.length) (hc' : A' = none → c' = 0) (hr : Sl w B A' l')
    (hbytes : l.length + l'.length ≤ 140737488355328) (hbase : base ≤ w.heap.size)
    (h : ∀ A2 c2 w', Own w' base e A2 c2 (l ++ l') → w.grownBy w' (Value.slice A n c).ownBlock → wpList P ops Q rest (a.put o.dst (.slice A2 (l ++ l').length c2)) w') : wpList P ops Q (o :: rest) a w :=
  wpList_plain hgd fun _ hK => wp_app s x t ho base e i z ht hi hz hsize hby hzs A n c l hs hn hown B A' m c' l' hx hm hc' hr hbytes hbase fun A2 c2 w' h2 h3 => hK _ _ (h A2 c2 w' h2 h3)
/-- The same as one step of a region that leaves its order open. -/
theorem step_app {P : Program} {w : World} {ops : Array Oper} {o : Oper} {a : Act} {K : Act → World → Prop} {Q : Exit → Act → World → Prop} {E : Prop} (hgd : o.guard = none) (s x : Operand) (t : TypeId)
    (ho : o.op = .call { callee := .builtin .append, args := #[s, x], argTypes := #[t, t] })
    (base : Nat) (e : TypeId) (i : TypeInfo) (z : Value) (ht : P.underlying t = some (.slice e)) (hi : P.info? e = some i) (hz : i.zero = some z)
    (hsize : i.size = 1) (hby : i.bytes = 1) (hzs : z.cells.size = 1)
    (A : Option Addr) (n c : Nat) (l : List Nat) (hs : a.eval s = .slice A n c) (hn : n = l.length) (hown : Own w base e A c l)
    (B : Nat) (A' : Option Addr) (m c' : Nat) (l' : List Nat) (hx : a.eval x = .slice A' m c') (hm : m = l'.length) (hc' : A' = none → c' = 0) (hr : Sl w B A' l')
    (hbytes : l.length + l'.length ≤ 140737488355328) (hbase : base ≤ w.heap.size)
    (h : ∀ A2 c2 w', Own w' base e A2 c2 (l ++ l') → w.grownBy w' (Value.slice A n c).ownBlock → K (a.put o.dst (.slice A2 (l ++ l').length c2)) w') :
    if Region.wanted o (yielded ops a.tmps) = true then Oper.wp P o a w K Q else E := by
  have hw : Region.wanted o (yielded ops a.tmps) = true := by simp [Region.wanted, hgd]
  rw [if_pos hw]
  exact wp_app s x t ho base e i z ht hi hz hsize hby hzs A n c l hs hn hown B A' m c' l' hx hm hc' hr hbytes hbase h

/-- Where a byte of one's own is stored. -/
theorem Own.store {w : World} {base : Nat} {e : TypeId} {A : Option Addr} {c : Nat} {l : List Nat} (h : Own w base e A c l) {k : Nat} (hk : k < l.length) :
    ∃ g, A = some ⟨g, 0, none⟩ ∧ base ≤ g ∧ ∀ y : Nat, y < 256 → Own (w.setCell ⟨g, k, none⟩ (.int .u8 (y : Int))) base e A c (l.set k y) := by
  rcases h.1.2 with ⟨_, h0⟩ | ⟨g, cap, cur, hv, hb, _⟩
  · omega
  · injection hv with hA hn hc
    subst hA hc
    refine ⟨g, rfl, hb, fun y hy => ⟨?_, ?_⟩⟩
    · have := (h.1.stored k (.int .u8 (y : Int))).1
      rw [bys_set] at this
      rw [List.length_set]; exact this
    · intro x hx
      rcases List.mem_or_eq_of_mem_set hx with h1 | h1
      · exact h.2 x h1
      · omega
theorem Own.frozen {w : World} {base : Nat} {e : TypeId} {g c : Nat} {l : List Nat} (h : Own w base e (some ⟨g, 0, none⟩) c l) (k : Nat) : w.frozen? ⟨g, k, none⟩ = false := h.1.frozenAt k

/-! Bytes as a string. -/
def nums (l : List Nat) : List Int := l.map (fun (x : Nat) => (x : Int))
def str (l : List Nat) : ByteArray := strOfNums (nums l)
theorem conv_sl {P : Program} {w : World} {B : Nat} {A : Option Addr} {l : List Nat} (h : Sl w B A l) {src dst e : TypeId} (hs : P.underlying src = some (.slice e)) (he : P.underlying e = some (.int .u8)) (hd : P.underlying dst = some .string) (c : Nat) :
    (convert src dst (.slice A l.length c)).run P w = .ok (.string (str l)) w := by
  cases l with
  | nil =>
    cases A with
    | none => exact run_convert_bytes_nil w src e hs he 0 c dst hd
    | some ad =>
      rw [run_convert_bytes_string w src dst e _ _ c hs he hd, List.length_nil, run_bytesToString w ad 0 c [] (by simp [loadCells, loadCellsFrom])]
      rfl
  | cons y l =>
    obtain ⟨_, b, off, rfl, _, _⟩ := h 0 y rfl
    have := run_convert_bytes_arg (P := P) w src e hs he b off (y :: l).length c (nums (y :: l)) (by simp [nums]) (fun i hi => by
      obtain ⟨_, b', off', e', _, hc⟩ := h i _ (List.getElem?_eq_getElem hi)
      injection e' with e'
      injection e' with e1 e2
      subst e1 e2
      rw [hc, List.getD_eq_getElem?_getD, nums, List.getElem?_map, List.getElem?_eq_getElem hi]; rfl) dst hd
    exact this
theorem str_inj {l m : List Nat} (hl : Pol.BB l) (hm : Pol.BB m) (h : str l = str m) : l = m := by
  have h1 : (strOfNums (nums l)).data.toList = (strOfNums (nums m)).data.toList := by show (str l).data.toList = (str m).data.toList; rw [h]
  rw [strOfNums_data, strOfNums_data] at h1
  have key : ∀ k : List Nat, Pol.BB k → ((nums k).map fun n => UInt8.ofNat n.toNat).map UInt8.toNat = k := fun k hk => by
    induction k with
    | nil => rfl
    | cons y k ih =>
      have := hk.head
      show ((UInt8.ofNat ((y : Int)).toNat).toNat) :: ((nums k).map fun n => UInt8.ofNat n.toNat).map UInt8.toNat = y :: k
      rw [ih hk.tail, Int.toNat_natCast, UInt8.toNat_ofNat_of_lt' (by omega)]
  rw [← key l hl, ← key m hm, h1]
/-- Are two rows of bytes the same? -/
theorem str_same {l m : List Nat} (hl : Pol.BB l) (hm : Pol.BB m) : ((str l).toList == (str m).toList) = decide (l = m) := by
  rw [Bool.eq_iff_iff, beq_iff_eq, decide_eq_true_eq, ByteArray.toList_eq, ByteArray.toList_eq]
  constructor
  · intro h; exact str_inj hl hm (WideShapes.bytes_inj h)
  · intro h; rw [h]
/-- A new block of two bytes, as a slice. -/
theorem Sl.two (w : World) (e : TypeId) (x y : Nat) (hx : x < 256) (hy : y < 256) : Sl (w.alloc (.cells #[.int .u8 (x : Int), .int .u8 (y : Int)] e)) (w.heap.size + 1) (some ⟨w.heap.size, 0, none⟩) [x, y] := fun i z hz => by
  match i, hz with
  | 0, hz => simp at hz; subst hz; exact ⟨hx, _, 0, rfl, by omega, World.cell?_alloc_new w _ e 0⟩
  | 1, hz => simp at hz; subst hz; exact ⟨hy, _, 0, rfl, by omega, World.cell?_alloc_new w _ e 1⟩
end Gw
