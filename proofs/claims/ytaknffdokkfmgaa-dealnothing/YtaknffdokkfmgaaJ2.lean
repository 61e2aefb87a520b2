import Derived.Laws.AppendOwnNone
import Derived.Maps.AppendAt
import Derived.Laws.CopyOwn
import Derived.Laws.BytesArg
import Derived.Deep.RegionHeld3
import Derived.StillTailTactics
import Derived.Deep.RegionLaw
import Derived.Deep.OwnRows
import Derived.ProofKit
import Derived.OpenShut
import Derived.SizedLaws
import Derived.ChangeOld
import Derived.Carry
import Derived.Lib.SmallJoins
import Derived.ChangeShapes
import Derived.Lib.BufferOwn
import Derived.Lib.HexFns2
import Derived.Test.YtaknffdokkfmgaaJ1
section
/- Slices of bytes, as the walks of this claim speak of them: one that reads as a list of numbers (nil let in), one that the call itself has made, and what append makes of the two. -/
namespace Gw
open Go Go.RowKit Go.Shelf

/-- Bytes as values. -/
def bys (l : List Nat) : List Value := l.map (fun (x : Nat) => Value.int .u8 (x : Int))
theorem bys_len (l : List Nat) : (bys l).length = l.length := by simp [bys]
theorem bys_app (l m : List Nat) : bys (l ++ m) = bys l ++ bys m := by simp [bys]
theorem bys_one (l : List Nat) : ∀ u ∈ bys l, u.oneCell' = true := fun u hu => by
  obtain ⟨x, _, rfl⟩ := List.mem_map.1 hu; rfl
theorem bys_get {l : List Nat} {j : Nat} {u : Value} (h : (bys l)[j]? = some u) : ∃ x, l[j]? = some x ∧ u = .int .u8 (x : Int) := by
  simp only [bys, List.getElem?_map, Option.map_eq_some_iff] at h
  obtain ⟨x, hx, rfl⟩ := h; exact ⟨x, hx, rfl⟩
theorem bys_at {l : List Nat} {j : Nat} {x : Nat} (h : l[j]? = some x) : (bys l)[j]? = some (.int .u8 (x : Int)) := by simp [bys, h]
theorem bys_set (l : List Nat) (j x : Nat) : (bys l).set j (.int .u8 (x : Int)) = bys (l.set j x) := by simp [bys, List.map_set]

/-- The slice at A reads as l; it lies below block B. -/
def Sl (w : World) (B : Nat) (A : Option Addr) (l : List Nat) : Prop :=
  ∀ (i x : Nat), l[i]? = some x → x < 256 ∧ ∃ b off, A = some ⟨b, off, none⟩ ∧ b < B ∧ w.cell? ⟨b, off + i, none⟩ = some (.int .u8 (x : Int))
theorem Sl.nil {w : World} {B : Nat} {A : Option Addr} : Sl w B A [] := fun i x h => by simp at h
theorem Sl.bb {w : World} {B : Nat} {A : Option Addr} {l : List Nat} (h : Sl w B A l) : Pol.BB l := fun x hx => by
  obtain ⟨i, hi⟩ := List.getElem?_of_mem hx; exact (h i x hi).1
theorem Sl.at_ {w : World} {B : Nat} {A : Option Addr} {l : List Nat} (h : Sl w B A l) {k : Nat} (hk : k < l.length) :
    ∃ x b off, l[k]? = some x ∧ x < 256 ∧ A = some ⟨b, off, none⟩ ∧ b < B ∧ w.cell? ⟨b, off + k, none⟩ = some (.int .u8 (x : Int)) := by
  have e := List.getElem?_eq_getElem hk
  obtain ⟨h1, b, off, h2, h3, h4⟩ := h k _ e
  exact ⟨_, b, off, e, h1, h2, h3, h4⟩
theorem Sl.keep {w w' : World} {B : Nat} {A : Option Addr} {l : List Nat} (h : Sl w B A l) (hk : ∀ p : Addr, p.block < B → w'.cell? p = w.cell? p) : Sl w' B A l := fun i x hx => by
  obtain ⟨h1, b, off, h2, h3, h4⟩ := h i x hx
  exact ⟨h1, b, off, h2, h3, (hk ⟨b, off + i, none⟩ h3).trans h4⟩
theorem Sl.more {w : World} {B B' : Nat} {A : Option Addr} {l : List Nat} (h : Sl w B A l) (hB : B ≤ B') : Sl w B' A l := fun i x hx => by
  obtain ⟨h1, b, off, h2, h3, h4⟩ := h i x hx
  exact ⟨h1, b, off, h2, by omega, h4⟩
theorem Sl.below {w w' : World} {B : Nat} {A : Option Addr} {l : List Nat} (h : Sl w B A l) (hb : Below B w w') : Sl w' B A l := h.keep fun _ hp => hb.cell hp
theorem Sl.drewN {w : World} {B : Nat} {A : Option Addr} {l : List Nat} (h : Sl w B A l) (n : Nat) : Sl (w.drewN n) B A l := h
theorem Sl.alloc {w : World} {B : Nat} {A : Option Addr} {l : List Nat} (h : Sl w B A l) (hB : B ≤ w.heap.size) (o : Obj) : Sl (w.alloc o) B A l := h.keep fun p hp => World.cell?_alloc_lt w o p (by omega)
theorem Sl.take {w : World} {B : Nat} {A : Option Addr} {l : List Nat} (h : Sl w B A l) (n : Nat) : Sl w B A (l.take n) := fun i x hx => by
  rw [List.getElem?_take] at hx
  split at hx
  · exact h i x hx
  · cases hx
theorem Sl.drop {w : World} {B : Nat} {A : Option Addr} {l : List Nat} (h : Sl w B A l) (n : Nat) : Sl w B (A.map (fun a => ⟨a.block, a.off + n, a.spot⟩)) (l.drop n) := fun i x hx => by
  rw [List.getElem?_drop] at hx
  obtain ⟨h1, b, off, h2, h3, h4⟩ := h _ x hx
  subst h2
  exact ⟨h1, b, off + n, rfl, h3, by rw [Nat.add_assoc]; exact h4⟩

/-- The slice at A, of capacity c, is the call's own (from block 'base' on) and holds l. e: byte's number among the types. -/
def Own (w : World) (base : Nat) (e : TypeId) (A : Option Addr) (c : Nat) (l : List Nat) : Prop :=
  w.ownsRow base e 1 (.slice A l.length c) l.length (bys l) ∧ Pol.BB l
theorem Own.sl {w : World} {base : Nat} {e : TypeId} {A : Option Addr} {c : Nat} {l : List Nat} (h : Own w base e A c l) : Sl w w.heap.size A l := fun i x hx => by
  refine ⟨h.2 x (List.mem_of_getElem? hx), ?_⟩
  have hi : i < l.length := (List.getElem?_eq_some_iff.1 hx).1
  rcases h.1.2 with ⟨_, h0⟩ | ⟨g, cap, cur, hv, hb, hg, hnc, hm, hs, ht⟩
  · omega
  · injection hv with hA hn hc
    subst hA hc
    refine ⟨g, 0, rfl, (Array.getElem?_eq_some_iff.1 hg).1, ?_⟩
    rw [Nat.zero_add, h.1.cellAt i (by omega)]
    exact bys_at hx
theorem Own.cap {w : World} {base : Nat} {e : TypeId} {A : Option Addr} {c : Nat} {l : List Nat} (h : Own w base e A c l) : l.length ≤ c := by
  rcases h.1.2 with ⟨hv, h0⟩ | ⟨g, cap, cur, hv, hb, hg, hnc, hm, hs, ht⟩
  · omega
  · injection hv with hA hn hc; omega
theorem Own.alloc {w : World} {base : Nat} {e : TypeId} {A : Option Addr} {c : Nat} {l : List Nat} (h : Own w base e A c l) (o : Obj) : Own (w.alloc o) base e A c l := ⟨h.1.alloc o, h.2⟩
theorem Own.drewN {w : World} {base : Nat} {e : TypeId} {A : Option Addr} {c : Nat} {l : List Nat} (h : Own w base e A c l) (n : Nat) : Own (w.drewN n) base e A c l := h
theorem Own.mk' {w : World} {base : Nat} {e : TypeId} {v : Value} {n : Nat} {l : List Nat} (h : w.ownsRow base e 1 v n (bys l)) (hb : Pol.BB l) : ∃ A c, v = .slice A l.length c ∧ Own w base e A c l := by
  have hn : n = l.length := by have := h.1; rw [bys_len] at this; omega
  subst hn
  rcases h.2 with ⟨hv, h0⟩ | ⟨g, cap, cur, hv, _⟩
  · subst hv; exact ⟨none, 0, by rw [h0], by rw [h0] at h; exact by rw [h0]; exact h, hb⟩
  · subst hv; exact ⟨_, cap, rfl, h, hb⟩
theorem Own.kept {w w' : World} {base : Nat} {e : TypeId} {A : Option Addr} {c : Nat} {l : List Nat} (h : Own w base e A c l) (hb : Below w.heap.size w w') : Own w' base e A c l := by
  refine ⟨h.1.kept (row := none) ⟨hb.os, hb.tape, hb.output, hb.size, fun k hk _ => hb.block k hk⟩ ?_, h.2⟩
  cases A with
  | none => exact .inl rfl
  | some a => exact .inr (by simp [Value.ownBlock])
theorem Own.base {w : World} {base base' : Nat} {e : TypeId} {A : Option Addr} {c : Nat} {l : List Nat} (h : Own w base e A c l) (hb : base' ≤ base) : Own w base' e A c l := by
  refine ⟨⟨h.1.1, ?_⟩, h.2⟩
  rcases h.1.2 with h0 | ⟨g, cap, cur, hv, hg, h0⟩
  · exact .inl h0
  · exact .inr ⟨g, cap, cur, hv, by omega, h0⟩
theorem Own.none_ (w : World) (base : Nat) (e : TypeId) : Own w base e none 0 [] := ⟨World.ownsRow_nil w base e 1, Pol.BB.nil⟩
/-- '[]byte{}'. -/
theorem Own.lit0 (w : World) (base : Nat) (e : TypeId) (hb : base ≤ w.heap.size) : Own (w.alloc (.cells #[] e)) base e (some ⟨w.heap.size, 0, none⟩) 0 [] :=
  ⟨World.ownsRow_made w #[] 0 hb (by simp [maxLen]) rfl, Pol.BB.nil⟩

/-- A slice of bytes that may be handed on: it reads as l, its capacity c is no less, and nil has none. -/
structure In (w : World) (B : Nat) (A : Option Addr) (c : Nat) (l : List Nat) : Prop where
  sl : Sl w B A l
  cap : l.length ≤ c
  none_ : A = none → c = 0
theorem In.below {w w' : World} {B : Nat} {A : Option Addr} {c : Nat} {l : List Nat} (h : In w B A c l) (hb : Below B w w') : In w' B A c l := ⟨h.sl.below hb, h.cap, h.none_⟩
theorem In.more {w : World} {B B' : Nat} {A : Option Addr} {c : Nat} {l : List Nat} (h : In w B A c l) (hB : B ≤ B') : In w B' A c l := ⟨h.sl.more hB, h.cap, h.none_⟩
theorem In.drewN {w : World} {B : Nat} {A : Option Addr} {c : Nat} {l : List Nat} (h : In w B A c l) (n : Nat) : In (w.drewN n) B A c l := ⟨h.sl.drewN n, h.cap, h.none_⟩
theorem In.alloc {w : World} {B : Nat} {A : Option Addr} {c : Nat} {l : List Nat} (h : In w B A c l) (hB : B ≤ w.heap.size) (o : Obj) : In (w.alloc o) B A c l := ⟨h.sl.alloc hB o, h.cap, h.none_⟩
theorem In.bb {w : World} {B : Nat} {A : Option Addr} {c : Nat} {l : List Nat} (h : In w B A c l) : Pol.BB l := h.sl.bb
theorem Own.inn {w : World} {base : Nat} {e : TypeId} {A : Option Addr} {c : Nat} {l : List Nat} (h : Own w base e A c l) : In w w.heap.size A c l := by
  refine ⟨h.sl, h.cap, fun hA => ?_⟩
  subst hA
  rcases h.1.2 with ⟨hv, _⟩ | ⟨g, cap, cur, hv, _⟩
  · injection hv
  · injection hv with hA; cases hA

/-- A new block of one byte, as a slice. -/
theorem Sl.one (w : World) (e : TypeId) (y : Nat) (hy : y < 256) : Sl (w.alloc (.cells #[.int .u8 (y : Int)] e)) (w.heap.size + 1) (some ⟨w.heap.size, 0, none⟩) [y] := fun i x hx => by
  cases i with
  | zero => simp at hx; subst hx; exact ⟨hy, _, 0, rfl, by omega, World.cell?_alloc_new w #[.int .u8 (y : Int)] e 0⟩
  | succ i => simp at hx
theorem take_snoc {l : List Nat} {k y : Nat} (h : l[k]? = some y) : l.take k ++ [y] = l.take (k + 1) := by rw [List.take_add_one, h]; rfl

theorem own_any {A : Option Addr} {n c m k : Nat} (h : (Value.slice A n c).ownBlock = some k) : (Value.slice A m c).ownBlock = some k := by
  cases A with
  | none => cases h
  | some a => exact h
/-- Nothing old is turned by an append onto what the call has made. -/
theorem below_app {w wr w2 : World} {base : Nat} {e : TypeId} {A : Option Addr} {n c : Nat} {l : List Nat} {o : Obj} (hb : Below base w wr) (hs : base ≤ wr.heap.size) (ho : Own wr base e A c l)
    (hg : (wr.alloc o).grownBy w2 (Value.slice A n c).ownBlock) : Below base w w2 :=
  (hb.alloc hs o).grown hg (by simp; omega) (fun k hk => (ho.1.lt k (own_any hk)).1)
theorem below_app0 {w wr w2 : World} {base : Nat} {e : TypeId} {A : Option Addr} {n c : Nat} {l : List Nat} (hb : Below base w wr) (hs : base ≤ wr.heap.size) (ho : Own wr base e A c l)
    (hg : wr.grownBy w2 (Value.slice A n c).ownBlock) : Below base w w2 :=
  hb.grown hg hs (fun k hk => (ho.1.lt k (own_any hk)).1)

/-- The same, onto '[]byte{}' inside a region that leaves its order open. -/
theorem below_lit {w wr w2 : World} {base : Nat} {e : TypeId} (hb : Below base w wr) (hs : base ≤ wr.heap.size) (hg : (wr.alloc (.cells #[] e)).drew.grownBy w2 (Value.slice (some ⟨wr.heap.size, 0, none⟩) 0 0).ownBlock) : Below base w w2 :=
  ((hb.alloc hs (.cells #[] e)).drew).grown hg (by show base ≤ (wr.alloc _).heap.size; simp; omega) (fun k hk => by simp [Value.ownBlock] at hk; omega)

theorem below_lit' {w wr w2 : World} {base : Nat} {e : TypeId} (hb : Below base w wr) (hs : base ≤ wr.heap.size) (hg : (wr.alloc (.cells #[] e)).grownBy w2 (Value.slice (some ⟨wr.heap.size, 0, none⟩) 0 0).ownBlock) : Below base w w2 :=
  (hb.alloc hs (.cells #[] e)).grown hg (by simp; omega) (fun k hk => by simp [Value.ownBlock] at hk; omega)

/-- What append answers: some slice of the call's own, that holds both. -/
theorem run_app {P : Program} {w : World} (t ty : TypeId) (base : Nat) (e : TypeId) (i : TypeInfo) (z : Value) (ht : P.underlying t = some (.slice e)) (hi : P.info? e = some i) (hz : i.zero = some z)
    (hsize : i.size = 1) (hby : i.bytes = 1) (hzs : z.cells.size = 1)
    (A : Option Addr) (n c : Nat) (l : List Nat) (hn : n = l.length) (hown : Own w base e A c l)
    (B : Nat) (A' : Option Addr) (m c' : Nat) (l' : List Nat) (hm : m = l'.length) (hc' : A' = none → c' = 0) (hr : Sl w B A' l')
    (hbytes : l.length + l'.length ≤ 140737488355328) (hbase : base ≤ w.heap.size) :
    ∃ A2 c2 w', (Builtin.append_ #[t, t] ty #[.slice A n c, .slice A' m c']).run P w = .ok (.slice A2 (l ++ l').length c2) w' ∧ Own w' base e A2 c2 (l ++ l') ∧ w.grownBy w' (Value.slice A n c).ownBlock := by
  subst hn hm
  cases A' with
  | none =>
    have h0 : l' = [] := by
      cases l' with
      | nil => rfl
      | cons y l' => obtain ⟨_, b, off, hb, _⟩ := hr 0 y rfl; cases hb
    subst h0
    have hc0 := hc' rfl
    subst hc0
    have hrun := run_append_owned_none (P := P) (w := w) base t ty e i 1 ht hi _ _ _ hown.1
    exact ⟨A, c, w, by simpa using hrun, by simpa using hown, World.grownBy.refl w _⟩
  | some ad =>
    obtain ⟨v', w', hrun, h2, h3, _⟩ := run_append_own_at (P := P) w base t ty e i z 1 1 ht hi hz hsize hby hzs (by omega) _ _ _ hown.1 ad l'.length c' (bys l') (by rw [bys_len, Nat.mul_one]) (fun j u hj => by
      obtain ⟨y, hy, rfl⟩ := bys_get hj
      obtain ⟨_, b, off, hb, _, hcell⟩ := hr j y hy
      injection hb with hb
      subst hb
      have e1 : (⟨b, off, none⟩ : Addr).add j = ⟨b, off + j, none⟩ := by
        unfold Addr.add; split
        · rename_i h0; subst h0; rfl
        · rfl
      rw [e1]; exact hcell) (bys_one l') (by simp only [maxLen]; omega) (by omega) hbase
    rw [← bys_app] at h2
    obtain ⟨A2, c2, hv, ho2⟩ := Own.mk' h2 (hown.2.append hr.bb)
    subst hv
    exact ⟨A2, c2, w', hrun, ho2, h3⟩
theorem wp_app {P : Program} {w : World} {o : Oper} {a : Act} {K : Act → World → Prop} {Q : Exit → Act → World → Prop} (s x : Operand) (t : TypeId)
    (ho : o.op = .call { callee := .builtin .append, args := #[s, x], argTypes := #[t, t] })
    (base : Nat) (e : TypeId) (i : TypeInfo) (z : Value) (ht : P.underlying t = some (.slice e)) (hi : P.info? e = some i) (hz : i.zero = some z)
    (hsize : i.size = 1) (hby : i.bytes = 1) (hzs : z.cells.size = 1)
    (A : Option Addr) (n c : Nat) (l : List Nat) (hs : a.eval s = .slice A n c) (hn : n = l.length) (hown : Own w base e A c l)
    (B : Nat) (A' : Option Addr) (m c' : Nat) (l' : List Nat) (hx : a.eval x = .slice A' m c') (hm : m = l'.length) (hc' : A' = none → c' = 0) (hr : Sl w B A' l')
    (hbytes : l.length + l'.length ≤ 140737488355328) (hbase : base ≤ w.heap.size)
    (h : ∀ A2 c2 w', Own w' base e A2 c2 (l ++ l') → w.grownBy w' (Value.slice A n c).ownBlock → K (a.put o.dst (.slice A2 (l ++ l').length c2)) w') : o.wp P a w K Q := by
  obtain ⟨A2, c2, w', hrun, h2, h3⟩ := run_app (P := P) t o.type base e i z ht hi hz hsize hby hzs A n c l hn hown B A' m c' l' hm hc' hr hbytes hbase
  unfold Oper.wp execOp
  simp only [ho, resolve, invoke, builtin, Sem.run_bind, Sem.run_pure, Result.andThen_ok, List.map_toArray, List.map_cons, List.map_nil, hs, hx, hrun]
  exact h A2 c2 w' h2 h3
theorem wpList_app {P : Program} {w : World} {ops : Array Oper} {rest : List Oper} {o : Oper} {a : Act} {Q : Exit → Act → World → Prop} (hgd : o.guard = none) (s x : Operand) (t : TypeId)
    (ho : o.op = .call { callee := .builtin .append, args := #[s, x], argTypes := #[t, t] })
    (base : Nat) (e : TypeId) (i : TypeInfo) (z : Value) (ht : P.underlying t = some (.slice e)) (hi : P.info? e = some i) (hz : i.zero = some z)
    (hsize : i.size = 1) (hby : i.bytes = 1) (hzs : z.cells.size = 1)
    (A : Option Addr) (n c : Nat) (l : List Nat) (hs : a.eval s = .slice A n c) (hn : n = l.length) (hown : Own w base e A c l)
    (B : Nat) (A' : Option Addr) (m c' : Nat) (l' : List Nat) (hx : a.eval x = .slice A' m c') (hm : m = l'.length) (hc' : A' = none → c' = 0) (hr : Sl w B A' l')
    (hbytes : l.length + l'.length ≤ 140737488355328) (hbase : base ≤ w.heap.size)
    (h : ∀ A2 c2 w', Own w' base e A2 c2 (l ++ l') → w.grownBy w' (Value.slice A n c).ownBlock → wpList P ops Q rest (a.put o.dst (.slice A2 (l ++ l').length c2)) w') : wpList P ops Q (o :: rest) a w :=
  wpList_plain hgd fun _ hK => wp_app s x t ho base e i z ht hi hz hsize hby hzs A n c l hs hn hown B A' m c' l' hx hm hc' hr hbytes hbase fun A2 c2 w' h2 h3 => hK _ _ (h A2 c2 w' h2 h3)
/-- The same as one step of a region that leaves its order open. -/
theorem step_app {P : Program} {w : World} {ops : Array Oper} {o : Oper} {a : Act} {K : Act → World → Prop} {Q : Exit → Act → World → Prop} {E : Prop} (hgd : o.guard = none) (s x : Operand) (t : TypeId)
    (ho : o.op = .call { callee := .builtin .append, args := #[s, x], argTypes := #[t, t] })
    (base : Nat) (e : TypeId) (i : TypeInfo) (z : Value) (ht : P.underlying t = some (.slice e)) (hi : P.info? e = some i) (hz : i.zero = some z)
    (hsize : i.size = 1) (hby : i.bytes = 1) (hzs : z.cells.size = 1)
    (A : Option Addr) (n c : Nat) (l : List Nat) (hs : a.eval s = .slice A n c) (hn : n = l.length) (hown : Own w base e A c l)
    (B : Nat) (A' : Option Addr) (m c' : Nat) (l' : List Nat) (hx : a.eval x = .slice A' m c') (hm : m = l'.length) (hc' : A' = none → c' = 0) (hr : Sl w B A' l')
    (hbytes : l.length + l'.length ≤ 140737488355328) (hbase : base ≤ w.heap.size)
    (h : ∀ A2 c2 w', Own w' base e A2 c2 (l ++ l') → w.grownBy w' (Value.slice A n c).ownBlock → K (a.put o.dst (.slice A2 (l ++ l').length c2)) w') :
    if Region.wanted o (yielded ops a.tmps) = true then Oper.wp P o a w K Q else E := by
  have hw : Region.wanted o (yielded ops a.tmps) = true := by simp [Region.wanted, hgd]
  rw [if_pos hw]
  exact wp_app s x t ho base e i z ht hi hz hsize hby hzs A n c l hs hn hown B A' m c' l' hx hm hc' hr hbytes hbase h

/-- Where a byte of one's own is stored. -/
theorem Own.store {w : World} {base : Nat} {e : TypeId} {A : Option Addr} {c : Nat} {l : List Nat} (h : Own w base e A c l) {k : Nat} (hk : k < l.length) :
    ∃ g, A = some ⟨g, 0, none⟩ ∧ base ≤ g ∧ ∀ y : Nat, y < 256 → Own (w.setCell ⟨g, k, none⟩ (.int .u8 (y : Int))) base e A c (l.set k y) := by
  rcases h.1.2 with ⟨_, h0⟩ | ⟨g, cap, cur, hv, hb, _⟩
  · omega
  · injection hv with hA hn hc
    subst hA hc
    refine ⟨g, rfl, hb, fun y hy => ⟨?_, ?_⟩⟩
    · have := (h.1.stored k (.int .u8 (y : Int))).1
      rw [bys_set] at this
      rw [List.length_set]; exact this
    · intro x hx
      rcases List.mem_or_eq_of_mem_set hx with h1 | h1
      · exact h.2 x h1
      · omega
theorem Own.frozen {w : World} {base : Nat} {e : TypeId} {g c : Nat} {l : List Nat} (h : Own w base e (some ⟨g, 0, none⟩) c l) (k : Nat) : w.frozen? ⟨g, k, none⟩ = false := h.1.frozenAt k

/-! Bytes as a string. -/
def nums (l : List Nat) : List Int := l.map (fun (x : Nat) => (x : Int))
def str (l : List Nat) : ByteArray := strOfNums (nums l)
theorem conv_sl {P : Program} {w : World} {B : Nat} {A : Option Addr} {l : List Nat} (h : Sl w B A l) {src dst e : TypeId} (hs : P.underlying src = some (.slice e)) (he : P.underlying e = some (.int .u8)) (hd : P.underlying dst = some .string) (c : Nat) :
    (convert src dst (.slice A l.length c)).run P w = .ok (.string (str l)) w := by
  cases l with
  | nil =>
    cases A with
    | none => exact run_convert_bytes_nil w src e hs he 0 c dst hd
    | some ad =>
      rw [run_convert_bytes_string w src dst e _ _ c hs he hd, List.length_nil, run_bytesToString w ad 0 c [] (by simp [loadCells, loadCellsFrom])]
      rfl
  | cons y l =>
    obtain ⟨_, b, off, rfl, _, _⟩ := h 0 y rfl
    have := run_convert_bytes_arg (P := P) w src e hs he b off (y :: l).length c (nums (y :: l)) (by simp [nums]) (fun i hi => by
      obtain ⟨_, b', off', e', _, hc⟩ := h i _ (List.getElem?_eq_getElem hi)
      injection e' with e'
      injection e' with e1 e2
      subst e1 e2
      rw [hc, List.getD_eq_getElem?_getD, nums, List.getElem?_map, List.getElem?_eq_getElem hi]; rfl) dst hd
    exact this
theorem str_inj {l m : List Nat} (hl : Pol.BB l) (hm : Pol.BB m) (h : str l = str m) : l = m := by
  have h1 : (strOfNums (nums l)).data.toList = (strOfNums (nums m)).data.toList := by show (str l).data.toList = (str m).data.toList; rw [h]
  rw [strOfNums_data, strOfNums_data] at h1
  have key : ∀ k : List Nat, Pol.BB k → ((nums k).map fun n => UInt8.ofNat n.toNat).map UInt8.toNat = k := fun k hk => by
    induction k with
    | nil => rfl
    | cons y k ih =>
      have := hk.head
      show ((UInt8.ofNat ((y : Int)).toNat).toNat) :: ((nums k).map fun n => UInt8.ofNat n.toNat).map UInt8.toNat = y :: k
      rw [ih hk.tail, Int.toNat_natCast, UInt8.toNat_ofNat_of_lt' (by omega)]
  rw [← key l hl, ← key m hm, h1]
/-- Are two rows of bytes the same? -/
theorem str_same {l m : List Nat} (hl : Pol.BB l) (hm : Pol.BB m) : ((str l).toList == (str m).toList) = decide (l = m) := by
  rw [Bool.eq_iff_iff, beq_iff_eq, decide_eq_true_eq, ByteArray.toList_eq, ByteArray.toList_eq]
  constructor
  · intro h; exact str_inj hl hm (WideShapes.bytes_inj h)
  · intro h; rw [h]
/-- A new block of two bytes, as a slice. -/
theorem Sl.two (w : World) (e : TypeId) (x y : Nat) (hx : x < 256) (hy : y < 256) : Sl (w.alloc (.cells #[.int .u8 (x : Int), .int .u8 (y : Int)] e)) (w.heap.size + 1) (some ⟨w.heap.size, 0, none⟩) [x, y] := fun i z hz => by
  match i, hz with
  | 0, hz => simp at hz; subst hz; exact ⟨hx, _, 0, rfl, by omega, World.cell?_alloc_new w _ e 0⟩
  | 1, hz => simp at hz; subst hz; exact ⟨hy, _, 0, rfl, by omega, World.cell?_alloc_new w _ e 1⟩
end Gw
end
section
/- How an argument that is a slice of bytes is opened: it reads as a list of numbers, and holds no more bytes than the form's own reach. -/
namespace Gw
open Go Go.RowKit Go.Shelf Go.ChangeShapes Go.WideShapes Go.ChangeAt

theorem open_bytes {H : Type} {enc : TypeId × Value → H} {P : Program} {W : World} {t e : TypeId} {r : Reach} {base : Nat} {v : Value} {d : DataW H} {p : List MemPlace}
    (ht : P.underlying t = some (.slice e)) (he : P.underlying e = some (.int .u8)) (hc : P.cellsOf e = 1) (hok : Value.okWide P W r base t v) (h : DataW.Trod enc P W 0 (fun _ => true) true t v d p) :
    ∃ A c l, v = .slice A l.length c ∧ In W W.heap.size A c l ∧ ((d = .nil ∧ c = 0) ∨ ∃ el sp, d = .slice el sp ∧ el.length + sp.length = c) := by
  obtain ⟨A, len, cap, rfl⟩ := okWide_slice ht hok
  obtain ⟨fuel, hf⟩ := h
  rcases open_ints ht he hc hf with ⟨hcs, hx⟩ | ⟨a, len', cap', zs, hcs, _, hl, hm, hz, hx, hcell, hwz⟩
  · simp [Value.cells] at hcs
    obtain ⟨rfl, rfl, rfl⟩ := hcs
    injection hx with hx _
    exact ⟨none, 0, [], rfl, ⟨Sl.nil, Nat.le_refl _, fun _ => rfl⟩, .inl ⟨hx, rfl⟩⟩
  · simp [Value.cells] at hcs
    obtain ⟨rfl, rfl, rfl⟩ := hcs
    simp only [if_true] at hz
    injection hx with hx _
    obtain ⟨l, hl2⟩ : ∃ l : List Nat, l = (zs.take len).map Int.toNat := ⟨_, rfl⟩
    have hll : l.length = len := by rw [hl2]; simp; omega
    refine ⟨some a, cap, l, by rw [hll], ⟨?_, by omega, fun h => by cases h⟩, .inr ⟨_, _, hx, ?_⟩⟩
    · intro i x hi
      have hil : i < l.length := (List.getElem?_eq_some_iff.1 hi).1
      have hiz : i < zs.length := by omega
      have hx2 : x = (zs[i]).toNat := by
        rw [hl2, List.getElem?_map, List.getElem?_take, if_pos (by omega), List.getElem?_eq_getElem hiz] at hi
        simpa using hi.symm
      have hw := bounds_u8 (hwz _ (List.getElem_mem hiz))
      have hc0 := hcell i hiz
      have hg : zs.getD i 0 = zs[i] := by simp [List.getD, hiz]
      rw [hg] at hc0
      have hci : ((zs[i]).toNat : Int) = zs[i] := by omega
      obtain ⟨b, off, spot⟩ := a
      have hsp : spot = none := by
        have h0 := World.cell?_spot (hcell 0 (by omega))
        simpa [Addr.add] using h0
      subst hsp
      have hadd : (⟨b, off, none⟩ : Addr).add i = ⟨b, off + i, none⟩ := by
        unfold Addr.add; split
        · rename_i h0; subst h0; rfl
        · rfl
      rw [hadd] at hc0
      refine ⟨by omega, b, off, rfl, ?_, by rw [hx2, hci]; exact hc0⟩
      have : W.heap[b]? ≠ none := fun hn => by
        unfold World.cell? at hc0
        simp [hn] at hc0
      rcases Nat.lt_or_ge b W.heap.size with h1 | h1
      · exact h1
      · exact absurd (Array.getElem?_eq_none h1) this
    · simp [lits]; omega
theorem sized_bytes {H : Type} {P : Program} {ts : List TypeId} {ds : List (DataW H)} (h : (DataW.weightsEach P ts ds).all (· ≤ reachBytes) = true) {j : Nat} {t e : TypeId} {d : DataW H} {c : Nat} (ht : ts[j]? = some t) (hd : ds[j]? = some d)
    (hu : P.underlying t = some (.slice e)) (hb : P.bytesOf e = 1) (hc : (d = .nil ∧ c = 0) ∨ ∃ el sp, d = .slice el sp ∧ el.length + sp.length = c) : c ≤ 140737488351232 := by
  rcases hc with ⟨_, rfl⟩ | ⟨el, sp, rfl, rfl⟩
  · omega
  · have := sized_slice h ht hd hu
    rw [hb, Nat.mul_one] at this
    exact this
/-- How many bytes the first k hold. -/
def tot (l : Nat → List Nat) : Nat → Nat
  | 0 => 0
  | k + 1 => tot l k + (l k).length
theorem tot_mono {l : Nat → List Nat} {j k : Nat} (h : j ≤ k) : tot l j ≤ tot l k := by
  induction k with
  | zero => have : j = 0 := by omega
            subst this; exact Nat.le_refl _
  | succ k ih =>
    by_cases hj : j = k + 1
    · subst hj; exact Nat.le_refl _
    · have := ih (by omega)
      show tot l j ≤ tot l k + _
      omega
end Gw
end
section
/- A struct of five ints as an argument: opened and shut. -/
namespace Gw
open Go Go.RowKit Go.ChangeShapes Go.WideShapes Go.Lib Go.Deep
section
variable {H : Type} {enc : TypeId × Value → H} {P : Program} {w : World} {base : Nat} {spare : Nat → Bool} {held : Bool}
theorem array5 {α : Type} {cs : Array α} (h : cs.size = 5) : ∃ c0 c1 c2 c3 c4, cs = #[c0, c1, c2, c3, c4] := by
  obtain ⟨l⟩ := cs
  match l, h with
  | [c0, c1, c2, c3, c4], _ => exact ⟨c0, c1, c2, c3, c4, rfl⟩
/-- Five ints as one value. -/
abbrev pv (a0 a1 a2 a3 a4 : Int) : Value := .agg #[.int .i64 a0, .int .i64 a1, .int .i64 a2, .int .i64 a3, .int .i64 a4]
theorem open_five {r : Reach} {b0 : Nat} {t q : TypeId} {f0 f1 f2 f3 f4 : Field} {v : Value} {d : DataW H} {p : List MemPlace} (hs : P.underlying t = some (.struct #[f0, f1, f2, f3, f4])) (hone : oneCellFields P #[f0, f1, f2, f3, f4] = true) (hC : P.cellsOf t = 5)
    (q0 : f0.type = q) (q1 : f1.type = q) (q2 : f2.type = q) (q3 : f3.type = q) (q4 : f4.type = q) (hq : P.underlying q = some (.int .i64)) (hv : Value.okWide P w r b0 t v) (h : DataW.Trod enc P w base spare held t v d p) :
    ∃ a0 a1 a2 a3 a4 : Int, v = pv a0 a1 a2 a3 a4 ∧ d = .agg [.lit (.int .i64 a0), .lit (.int .i64 a1), .lit (.int .i64 a2), .lit (.int .i64 a3), .lit (.int .i64 a4)] ∧ p = [] ∧
      ((Lit.int .i64 a0).wf = true ∧ (Lit.int .i64 a1).wf = true ∧ (Lit.int .i64 a2).wf = true ∧ (Lit.int .i64 a3).wf = true ∧ (Lit.int .i64 a4).wf = true) := by
  obtain ⟨cs, rfl, hsz⟩ := okWide_struct hs hv
  obtain ⟨c0, c1, c2, c3, c4, rfl⟩ := array5 (hsz.trans hC)
  obtain ⟨fuel, hf⟩ := h
  obtain ⟨xs, n, _, hx, hl, hlen, hfs⟩ := DataW.trod_struct hs hf
  obtain ⟨o0, k0⟩ := hone_of hone 0 f0 rfl
  obtain ⟨o1, k1⟩ := hone_of hone 1 f1 rfl
  obtain ⟨o2, k2⟩ := hone_of hone 2 f2 rfl
  obtain ⟨o3, k3⟩ := hone_of hone 3 f3 rfl
  obtain ⟨o4, k4⟩ := hone_of hone 4 f4 rfl
  match xs, hlen with
  | [y0, y1, y2, y3, y4], _ =>
    have g0 : DataW.trod enc P w base spare held n f0.type [c0] = some y0 := by simpa [Value.cells, o0, k0] using hfs 0 f0 rfl
    have g1 : DataW.trod enc P w base spare held n f1.type [c1] = some y1 := by simpa [Value.cells, o1, k1] using hfs 1 f1 rfl
    have g2 : DataW.trod enc P w base spare held n f2.type [c2] = some y2 := by simpa [Value.cells, o2, k2] using hfs 2 f2 rfl
    have g3 : DataW.trod enc P w base spare held n f3.type [c3] = some y3 := by simpa [Value.cells, o3, k3] using hfs 3 f3 rfl
    have g4 : DataW.trod enc P w base spare held n f4.type [c4] = some y4 := by simpa [Value.cells, o4, k4] using hfs 4 f4 rfl
    rw [q0] at g0; rw [q1] at g1; rw [q2] at g2; rw [q3] at g3; rw [q4] at g4
    obtain ⟨a0, e0, x0, w0⟩ := DataW.trod_int hq g0
    obtain ⟨a1, e1, x1, w1⟩ := DataW.trod_int hq g1
    obtain ⟨a2, e2, x2, w2⟩ := DataW.trod_int hq g2
    obtain ⟨a3, e3, x3, w3⟩ := DataW.trod_int hq g3
    obtain ⟨a4, e4, x4, w4⟩ := DataW.trod_int hq g4
    injection e0 with e0; injection e1 with e1; injection e2 with e2; injection e3 with e3; injection e4 with e4
    subst e0 e1 e2 e3 e4 x0 x1 x2 x3 x4
    simp only [Prod.mk.injEq] at hx
    exact ⟨a0, a1, a2, a3, a4, rfl, by simpa using hx.1, by simpa using hx.2, w0, w1, w2, w3, w4⟩
theorem shut_five {t q : TypeId} {f0 f1 f2 f3 f4 : Field} {a0 a1 a2 a3 a4 : Int} (hs : P.underlying t = some (.struct #[f0, f1, f2, f3, f4])) (hone : oneCellFields P #[f0, f1, f2, f3, f4] = true) (hC : P.cellsOf t = 5)
    (q0 : f0.type = q) (q1 : f1.type = q) (q2 : f2.type = q) (q3 : f3.type = q) (q4 : f4.type = q) (hq : P.underlying q = some (.int .i64))
    (hw : (Lit.int .i64 a0).wf = true ∧ (Lit.int .i64 a1).wf = true ∧ (Lit.int .i64 a2).wf = true ∧ (Lit.int .i64 a3).wf = true ∧ (Lit.int .i64 a4).wf = true) :
    DataW.Trod enc P w base spare held t (pv a0 a1 a2 a3 a4) (.agg [.lit (.int .i64 a0), .lit (.int .i64 a1), .lit (.int .i64 a2), .lit (.int .i64 a3), .lit (.int .i64 a4)]) [] := by
  obtain ⟨w0, w1, w2, w3, w4⟩ := hw
  obtain ⟨o0, k0⟩ := hone_of hone 0 f0 rfl
  obtain ⟨o1, k1⟩ := hone_of hone 1 f1 rfl
  obtain ⟨o2, k2⟩ := hone_of hone 2 f2 rfl
  obtain ⟨o3, k3⟩ := hone_of hone 3 f3 rfl
  obtain ⟨o4, k4⟩ := hone_of hone 4 f4 rfl
  rw [q0] at k0; rw [q1] at k1; rw [q2] at k2; rw [q3] at k3; rw [q4] at k4
  have := trod_struct_mk (enc := enc) (w := w) (base := base) (spare := spare) (held := held) (n := 1) (cs := [.int .i64 a0, .int .i64 a1, .int .i64 a2, .int .i64 a3, .int .i64 a4]) (xs := [(.lit (.int .i64 a0), []), (.lit (.int .i64 a1), []), (.lit (.int .i64 a2), []), (.lit (.int .i64 a3), []), (.lit (.int .i64 a4), [])]) hs (by simp [hC])
    (by simp [DataW.trod, q0, q1, q2, q3, q4, hq, o0, o1, o2, o3, o4, k0, w0, w1, w2, w3, w4])
  exact ⟨2, by simpa [Value.cells] using this⟩
end
end Gw
end
section
/- More on polynomials as lists of numbers: what is added at a place, the product's first byte, quotients and what is left, the pieces out of which the polynomial through points is made; no program is named here. -/
namespace Pol
open Gf

theorem ext_co {l m : List Nat} (hl : l.length = m.length) (h : ∀ i, i < l.length → co l i = co m i) : l = m := by
  refine List.ext_getElem hl fun i h1 h2 => ?_
  have := h i h1
  rwa [co_get h1, co_get h2] at this
theorem tr_self {l : List Nat} (h : l = [] ∨ co l (l.length - 1) ≠ 0) : tr l = l := by
  have := tr_take l l.length (Nat.le_refl _) (fun i hi => co_far hi) (by
    rcases h with h | h
    · exact .inl (by rw [h]; rfl)
    · exact .inr h)
  rwa [List.take_length] at this
theorem tr_eq_self {l m : List Nat} (hm : m = [] ∨ co m (m.length - 1) ≠ 0) (h : ∀ i, co l i = co m i) : tr l = m := by rw [tr_ext h, tr_self hm]
theorem self_top {l : List Nat} (h : tr l = l) (h0 : l ≠ []) : co l (l.length - 1) ≠ 0 := by
  have := tr_last (p := l) (by rw [h]; exact h0)
  rwa [h] at this
theorem tr_is_take (l : List Nat) : tr l = l.take (tr l).length := by
  by_cases h : tr l = []
  · rw [h]; rfl
  · exact tr_take l (tr l).length (tr_len l) (fun i hi => co_trlen hi) (.inr (tr_last h))

/-- One step of the product, byte by byte. -/
theorem co_mul_zero (a : Nat) (p q : List Nat) : co (mul (a :: p) q) 0 = gm a (co q 0) := by
  unfold mul; rw [co_add, co_sm, co_zero, Nat.xor_zero]
theorem co_mul_succ (a : Nat) (p q : List Nat) (k : Nat) : co (mul (a :: p) q) (k + 1) = gm a (co q (k + 1)) ^^^ co (mul p q) k := by
  show co (add (sm a q) (0 :: mul p q)) (k + 1) = _
  rw [co_add, co_sm, co_succ]
theorem mul_right_ext (p : List Nat) {q r : List Nat} (h : ∀ i, co q i = co r i) (k : Nat) : co (mul p q) k = co (mul p r) k := by
  induction p generalizing k with
  | nil => rfl
  | cons a p ih =>
    cases k with
    | zero => rw [co_mul_zero, co_mul_zero, h]
    | succ k => rw [co_mul_succ, co_mul_succ, h, ih]
theorem mul_left_tr (p q : List Nat) (k : Nat) : co (mul (tr p) q) k = co (mul p q) k := by
  induction p generalizing k with
  | nil => rfl
  | cons a p ih =>
    have e : ∀ k, co (mul (a :: tr p) q) k = co (mul (a :: p) q) k := fun k => by
      cases k with
      | zero => rw [co_mul_zero, co_mul_zero]
      | succ k => rw [co_mul_succ, co_mul_succ, ih]
    by_cases h : tr p = [] ∧ a = 0
    · have : tr (a :: p) = [] := by rw [tr, if_pos h]
      rw [this, ← e k, h.1, h.2]
      cases k with
      | zero => rw [co_mul_zero, gm_zero_left]; rfl
      | succ k => rw [co_mul_succ, gm_zero_left]; simp [mul, co_nil]
    · rw [tr, if_neg h]; exact e k
theorem mul_tr_tr (p q : List Nat) (k : Nat) : co (mul (tr p) (tr q)) k = co (mul p q) k := by
  rw [mul_left_tr]; exact mul_right_ext p (co_tr q) k
theorem mul_far {p q : List Nat} {m k : Nat} (hq : Dg q m) (h : p.length + m ≤ k + 1) : co (mul p q) k = 0 := by
  induction p generalizing k with
  | nil => exact co_nil k
  | cons a p ih =>
    simp only [List.length_cons] at h
    cases k with
    | zero => rw [co_mul_zero, hq 0 (by omega), gm_zero_right]
    | succ k => rw [co_mul_succ, hq _ (by omega), gm_zero_right, ih (by omega)]; rfl
theorem mul_top {p q : List Nat} {m : Nat} (hp : p ≠ []) (hq : Dg q m) (hm : 1 ≤ m) : co (mul p q) (p.length + m - 2) = gm (co p (p.length - 1)) (co q (m - 1)) := by
  induction p with
  | nil => exact absurd rfl hp
  | cons a p ih =>
    by_cases h : p = []
    · subst h
      simp only [List.length_cons, List.length_nil]
      rw [show 0 + 1 + m - 2 = m - 1 from by omega]
      cases hk : m - 1 with
      | zero => rw [co_mul_zero]; simp [co_zero]
      | succ k => rw [co_mul_succ]; simp [mul, co_nil, co_zero]
    · have hl : 0 < p.length := List.length_pos_iff.2 h
      simp only [List.length_cons]
      rw [show p.length + 1 + m - 2 = (p.length + m - 2) + 1 from by omega, co_mul_succ, hq _ (by omega), gm_zero_right, Nat.zero_xor, ih h, show p.length + 1 - 1 = (p.length - 1) + 1 from by omega, co_succ]
/-- The product's row. -/
def pl (p q : List Nat) : List Nat := (List.range (p.length + q.length - 1)).map (co (mul p q))
theorem pl_len (p q : List Nat) : (pl p q).length = p.length + q.length - 1 := by simp [pl]
theorem co_pl {p q : List Nat} (hp : p ≠ []) (i : Nat) : co (pl p q) i = co (mul p q) i := by
  have hl : 0 < p.length := List.length_pos_iff.2 hp
  by_cases h : i < p.length + q.length - 1
  · rw [co_get (by rw [pl_len]; exact h)]; simp [pl]
  · rw [co_far (by rw [pl_len]; omega), mul_far (Dg.len (Nat.le_refl q.length)) (by omega)]
theorem pl_tr {p q : List Nat} (h1 : tr p ≠ []) (h2 : tr q ≠ []) : tr (mul p q) = pl (tr p) (tr q) := by
  have l1 : 0 < (tr p).length := List.length_pos_iff.2 h1
  have l2 : 0 < (tr q).length := List.length_pos_iff.2 h2
  refine tr_eq_self (.inr ?_) (fun i => by rw [co_pl h1, mul_tr_tr])
  rw [co_pl h1, pl_len, show (tr p).length + (tr q).length - 1 - 1 = (tr p).length + (tr q).length - 2 from by omega, mul_top h1 (Dg.len (Nat.le_refl _)) l2]
  intro h
  rcases gm_eq_zero.1 h with h | h
  · rw [co_tr] at h; exact tr_last h1 h
  · rw [co_tr] at h; exact tr_last h2 h
theorem pl_nil_left {p : List Nat} (q : List Nat) (h : tr p = []) : tr (mul p q) = [] := (tr_nil_iff _).2 (fun i => by rw [← mul_left_tr, h]; exact co_nil i)
theorem pl_nil_right (p : List Nat) {q : List Nat} (h : tr q = []) : tr (mul p q) = [] := (tr_nil_iff _).2 (fun i => by
  rw [mul_right_ext p (r := []) (fun i => by rw [(tr_nil_iff q).1 h, co_nil]), co_mul_nil])

/-! What is added at a place. -/
theorem co_set_ne {l : List Nat} {i j c : Nat} (h : j ≠ i) : co (l.set i c) j = co l j := by
  unfold co; rw [List.getD_eq_getElem?_getD, List.getElem?_set_ne (by omega), List.getD_eq_getElem?_getD]
/-- c times l, added to L from place o on. -/
def addAt (L : List Nat) (o c : Nat) (l : List Nat) : List Nat := (List.range L.length).map (fun j => co L j ^^^ (if o ≤ j then gm c (co l (j - o)) else 0))
theorem addAt_len (L : List Nat) (o c : Nat) (l : List Nat) : (addAt L o c l).length = L.length := by simp [addAt]
theorem co_addAt {L : List Nat} {o : Nat} (c : Nat) {l : List Nat} (h : o + l.length ≤ L.length) (j : Nat) : co (addAt L o c l) j = co L j ^^^ (if o ≤ j then gm c (co l (j - o)) else 0) := by
  by_cases hj : j < L.length
  · rw [co_get (by rw [addAt_len]; exact hj)]; simp [addAt]
  · rw [co_far (by rw [addAt_len]; omega), co_far (p := L) (by omega)]
    by_cases h2 : o ≤ j
    · rw [if_pos h2, co_far (p := l) (by omega), gm_zero_right]; rfl
    · rw [if_neg h2]; rfl
theorem addAt_nil (L : List Nat) (o c : Nat) : addAt L o c [] = L := by
  refine ext_co (addAt_len _ _ _ _) fun i hi => ?_
  rw [addAt_len] at hi
  rw [co_get (by rw [addAt_len]; exact hi)]
  simp [addAt, co_nil, gm_zero_right]
theorem addAt_snoc {L l : List Nat} {o k c x : Nat} (h : o + l.length ≤ L.length) (hx : l[k]? = some x) :
    (addAt L o c (l.take k)).set (o + k) (co (addAt L o c (l.take k)) (o + k) ^^^ gm c x) = addAt L o c (l.take (k + 1)) := by
  have hk : k < l.length := (List.getElem?_eq_some_iff.1 hx).1
  have hxe : x = co l k := by simp [co, hx]
  have t1 : o + (l.take k).length ≤ L.length := by rw [List.length_take]; omega
  have t2 : o + (l.take (k + 1)).length ≤ L.length := by rw [List.length_take]; omega
  refine ext_co (by rw [List.length_set, addAt_len, addAt_len]) fun i hi => ?_
  rw [List.length_set, addAt_len] at hi
  by_cases e : i = o + k
  · subst e
    have : co ((addAt L o c (l.take k)).set (o + k) (co (addAt L o c (l.take k)) (o + k) ^^^ gm c x)) (o + k) = co (addAt L o c (l.take k)) (o + k) ^^^ gm c x := by
      rw [co_get (by rw [List.length_set, addAt_len]; exact hi)]; simp
    rw [this, co_addAt c t1, co_addAt c t2, if_pos (by omega), if_pos (by omega), show o + k - o = k from by omega, co_take_far (Nat.le_refl k), co_take (by omega), gm_zero_right, Nat.xor_zero, hxe]
  · have : co ((addAt L o c (l.take k)).set (o + k) (co (addAt L o c (l.take k)) (o + k) ^^^ gm c x)) i = co (addAt L o c (l.take k)) i := by
      exact co_set_ne e
    rw [this, co_addAt c t1, co_addAt c t2]
    congr 1
    by_cases h2 : o ≤ i
    · rw [if_pos h2, if_pos h2]
      by_cases h3 : i - o < k
      · rw [co_take h3, co_take (by omega)]
      · rw [co_take_far (by omega), co_take_far (by omega)]
    · rw [if_neg h2, if_neg h2]
theorem addAt_bb {L : List Nat} (h : BB L) (o c : Nat) (l : List Nat) : BB (addAt L o c l) := fun x hx => by
  unfold addAt at hx
  obtain ⟨j, _, rfl⟩ := List.mem_map.1 hx
  refine xor_lt (h.co j) ?_
  split
  · exact gm_lt _ _
  · omega

/-! Quotients. -/
theorem mul_set {q : List Nat} {i c : Nat} (d : List Nat) (hi : i < q.length) (h0 : co q i = 0) (k : Nat) : co (mul (q.set i c) d) k = co (mul q d) k ^^^ (if i ≤ k then gm c (co d (k - i)) else 0) := by
  induction q generalizing i k with
  | nil => simp at hi
  | cons a q ih =>
    cases i with
    | zero =>
      have ha : a = 0 := by simpa [co_zero] using h0
      subst ha
      rw [List.set_cons_zero, if_pos (Nat.zero_le _), Nat.sub_zero]
      cases k with
      | zero => rw [co_mul_zero, co_mul_zero, gm_zero_left, Nat.zero_xor]
      | succ k => rw [co_mul_succ, co_mul_succ, gm_zero_left, Nat.zero_xor, Nat.xor_comm]
    | succ i =>
      rw [List.set_cons_succ]
      rw [co_succ] at h0
      cases k with
      | zero => rw [co_mul_zero, co_mul_zero, if_neg (by omega), Nat.xor_zero]
      | succ k =>
        rw [co_mul_succ, co_mul_succ, ih (by simpa using hi) h0, Nat.xor_assoc]
        simp
/-- q and r are what p is by d, and what is left. -/
structure DivOf (p d q r : List Nat) : Prop where
  bq : BB q
  br : BB r
  tq : tr q = q
  tr_ : tr r = r
  lr : r.length < (tr d).length
  lq : q.length ≤ p.length
  eq : ∀ k, co p k = co (mul q d) k ^^^ co r k
/-- What holds when the powers from i on are through: q is 0 below, r is 0 from i + (d's degree) on. -/
structure DivAt (p d q r : List Nat) (i : Nat) : Prop where
  bq : BB q
  br : BB r
  hq : ∀ j, j < i → co q j = 0
  hr : Dg r (i + d.length - 1)
  eq : ∀ k, co p k = co (mul q d) k ^^^ co r k
theorem DivAt.step {p d q r : List Nat} {i c : Nat} (h : DivAt p d q r (i + 1)) (hd : BB d) (hl : 0 < d.length) (h0 : co d (d.length - 1) ≠ 0) (hi : i < q.length) (hlr : i + d.length ≤ r.length)
    (hc : c = dv (co r (i + d.length - 1)) (co d (d.length - 1))) : DivAt p d (q.set i c) (addAt r i c d) i := by
  have hcl : c < 256 := by rw [hc]; exact gm_lt _ _
  have hmulc : gm c (co d (d.length - 1)) = co r (i + d.length - 1) := by rw [hc]; exact gm_dv (h.br.co _) (hd.co _) h0
  refine ⟨?_, addAt_bb h.br _ _ _, ?_, ?_, ?_⟩
  · intro x hx
    rcases List.mem_or_eq_of_mem_set hx with h1 | h1
    · exact h.bq x h1
    · omega
  · intro j hj
    rw [co_set_ne (by omega)]; exact h.hq j (by omega)
  · intro j hj
    rw [co_addAt c hlr, if_pos (by omega)]
    by_cases e : j = i + d.length - 1
    · subst e
      rw [show i + d.length - 1 - i = d.length - 1 from by omega, hmulc, Nat.xor_self]
    · rw [h.hr j (by omega), co_far (p := d) (by omega), gm_zero_right]; rfl
  · intro k
    rw [mul_set d hi (h.hq i (by omega)), co_addAt c hlr, h.eq k, xor4, Nat.xor_comm (co (mul q d) k) (co r k)]
    generalize (if i ≤ k then gm c (co d (k - i)) else 0) = X
    rw [Nat.xor_comm (co r k) (co (mul q d) k)]
    rw [show (co (mul q d) k ^^^ co r k) ^^^ (X ^^^ X) = co (mul q d) k ^^^ co r k by rw [Nat.xor_self, Nat.xor_zero]]
theorem DivAt.start {p d : List Nat} (hp : BB p) (n : Nat) (h : p.length ≤ n + d.length - 1) : DivAt p d (List.replicate n 0) p n := by
  refine ⟨fun x hx => by rw [List.eq_of_mem_replicate hx]; omega, hp, fun j hj => by unfold co; simp [hj], fun i hi => co_far (by omega), fun k => ?_⟩
  have : ∀ (m k : Nat), co (mul (List.replicate m 0) d) k = 0 := by
    intro m
    induction m with
    | zero => intro k; exact co_nil k
    | succ m ih =>
      intro k
      rw [List.replicate_succ]
      cases k with
      | zero => rw [co_mul_zero, gm_zero_left]
      | succ k => rw [co_mul_succ, gm_zero_left, ih]; rfl
  rw [this, Nat.zero_xor]
/-- At the end. -/
theorem DivAt.done {p d q r : List Nat} (h : DivAt (tr p) (tr d) q r 0) (hd : tr d ≠ []) (hl : q.length = (tr p).length - ((tr d).length - 1)) : DivOf p d q (tr r) := by
  have ld : 0 < (tr d).length := List.length_pos_iff.2 hd
  have hr : (tr r).length ≤ (tr d).length - 1 := Dg.tr (h.hr.mono (by omega))
  have hpl := tr_len p
  refine ⟨h.bq, tr_bb h.br, tr_self ?_, tr_tr r, by omega, by omega, fun k => ?_⟩
  · by_cases hq0 : q = []
    · exact .inl hq0
    · have lq : 0 < q.length := List.length_pos_iff.2 hq0
      have hp0 : tr p ≠ [] := fun e => by
        have e2 : (tr p).length = 0 := by rw [e]; rfl
        omega
      refine .inr fun e => ?_
      have h1 := h.eq ((tr p).length - 1)
      rw [show (tr p).length - 1 = q.length + (tr d).length - 2 from by omega, mul_top hq0 (Dg.len (Nat.le_refl _)) ld, e, gm_zero_left, h.hr _ (by omega), ← show (tr p).length - 1 = q.length + (tr d).length - 2 from by omega, co_tr] at h1
      exact tr_last hp0 h1
  · have h1 := h.eq k
    rw [co_tr, mul_right_ext q (co_tr d)] at h1
    rw [h1, co_tr]

/-! The polynomial of some roots, the other way round. -/
theorem lin_mul {p : List Nat} (hp : BB p) (a : Nat) : tr (mul [a, 1] p) = tr (mul p [a, 1]) := tr_ext fun k => by
  cases k with
  | zero =>
    rw [co_mul_zero]
    cases p with
    | nil => simp [mul, co_nil, gm_zero_right]
    | cons b p => rw [co_mul_zero, co_zero, co_zero, gm_comm]
  | succ k =>
    rw [co_mul_succ, co_mul_lin hp, gm_comm]
    congr 1
    cases k with
    | zero => rw [co_mul_zero, gm_one_left (hp.co 0)]
    | succ k => rw [co_mul_succ, gm_one_left (hp.co _)]; simp [mul, co_nil]

/-! The pieces. -/
theorem ev_lin {a x : Nat} (hx : x < 256) : ev x [a, 1] = a ^^^ x := by
  show a ^^^ gm x (1 ^^^ gm x 0) = a ^^^ x
  rw [gm_zero_right, Nat.xor_zero, gm_one hx]
theorem tr_lin (a : Nat) : tr [a, 1] = [a, 1] := tr_self (.inr (by simp [co]))
/-- What divides all roots' polynomial by one of them. -/
theorem piece_ev {xs q r : List Nat} {i : Nat} (hx : BB xs) (hi : i < xs.length) (h : DivOf (rt xs) [xs[i], 1] q r) {y : Nat} (hy : y < 256) : gm (ev y q) (xs[i] ^^^ y) = ev y (rt xs) := by
  have hxi := hx.get hi
  have hlr : r.length ≤ 1 := by have := h.lr; rw [tr_lin] at this; simp at this; omega
  have key : ∀ z, z < 256 → ev z (rt xs) = gm (ev z q) (xs[i] ^^^ z) ^^^ co r 0 := fun z hz => by
    have e1 : ev z (rt xs) = ev z (add (mul q [xs[i], 1]) r) := ev_ext z (fun k => by rw [h.eq k, co_add])
    rw [e1, ev_add (mul_bb _ _) h.br hz, ev_mul h.bq (mul_one_bb _ hxi) hz, ev_lin hz]
    congr 1
    match r, hlr with
    | [], _ => rfl
    | [b], _ => simp [ev, gm_zero_right, co_zero]
  have h0 := key xs[i] hxi
  rw [Nat.xor_self, gm_zero_right, Nat.zero_xor, (ev_rt_zero hx hxi).2 (List.getElem_mem hi)] at h0
  rw [key y hy, ← h0, Nat.xor_zero]
theorem piece_other {xs q r : List Nat} {i j : Nat} (hx : BB xs) (hn : xs.Nodup) (hi : i < xs.length) (hj : j < xs.length) (hne : j ≠ i) (h : DivOf (rt xs) [xs[i], 1] q r) : ev xs[j] q = 0 := by
  have h1 := piece_ev hx hi h (hx.get hj)
  rw [(ev_rt_zero hx (hx.get hj)).2 (List.getElem_mem hj)] at h1
  rcases gm_eq_zero.1 h1 with h2 | h2
  · exact h2
  · exact absurd ((List.getElem_inj hn).1 (xor_eq_zero h2).symm) hne
theorem piece_len {xs q r : List Nat} {i : Nat} (hi : i < xs.length) (h : DivOf (rt xs) [xs[i], 1] q r) : q.length = xs.length := by
  have hlr : r.length ≤ 1 := by have := h.lr; rw [tr_lin] at this; simp at this; omega
  have htop := (rt_top xs).2
  have hl := (rt_top xs).1
  have hq0 : q ≠ [] := fun e => by
    have := h.eq xs.length
    rw [e, htop, co_far (p := r) (by omega)] at this
    simp [mul, co_nil] at this
  have lq : 0 < q.length := List.length_pos_iff.2 hq0
  have hd : Dg [xs[i], 1] 2 := Dg.len (by simp)
  have hm := mul_top hq0 hd (by omega)
  have ht := self_top h.tq hq0
  rcases Nat.lt_trichotomy q.length xs.length with h1 | h1 | h1
  · have := h.eq xs.length
    rw [htop, co_far (p := r) (by omega), mul_far hd (by omega)] at this
    simp at this
  · exact h1
  · have := h.eq q.length
    rw [co_far (by omega), co_far (p := r) (by omega), Nat.xor_zero, show q.length = q.length + 2 - 2 from by omega, hm] at this
    have h3 : co [xs[i], 1] (2 - 1) = 1 := rfl
    rw [h3, gm_one (h.bq.co _)] at this
    exact absurd this.symm ht
theorem piece_self {xs q r : List Nat} {i : Nat} (hx : BB xs) (hn : xs.Nodup) (hi : i < xs.length) (h : DivOf (rt xs) [xs[i], 1] q r) : ev xs[i] q ≠ 0 := fun e => by
  have hl := piece_len hi h
  have hz := no_roots h.bq (Dg.len (Nat.le_of_eq hl)) hx hn (Nat.le_refl _) (fun x hxs => by
    obtain ⟨j, hj, rfl⟩ := List.getElem_of_mem hxs
    by_cases e2 : j = i
    · subst e2; exact e
    · exact piece_other hx hn hi hj e2 h)
  have hq0 : q ≠ [] := fun e => by rw [e] at hl; simp at hl; omega
  exact self_top h.tq hq0 (hz _)
theorem ev_addAt {L l : List Nat} {c x : Nat} (hL : BB L) (hl : BB l) (hc : c < 256) (hx : x < 256) (h : l.length ≤ L.length) : ev x (addAt L 0 c l) = ev x L ^^^ gm c (ev x l) := by
  rw [ev_ext x (q := add L (sm c l)) (fun k => by rw [co_addAt c (by omega), co_add, co_sm, if_pos (Nat.zero_le _), Nat.sub_zero]), ev_add hL (sm_bb _ _) hx, ev_sm hc hx hl]
end Pol
end
section
/- More on slices of bytes: those that lie outside a block, rows that a call has made and turns byte by byte, what 'make' and 'copy' lay. -/
namespace Gw
open Go Go.RowKit Go.Shelf Pol

/-- The slice at A reads as l, and lies not in block g. -/
def SlN (w : World) (g : Nat) (A : Option Addr) (l : List Nat) : Prop :=
  ∀ (i x : Nat), l[i]? = some x → x < 256 ∧ ∃ b off, A = some ⟨b, off, none⟩ ∧ b ≠ g ∧ b < w.heap.size ∧ w.cell? ⟨b, off + i, none⟩ = some (.int .u8 (x : Int))
theorem cell_lt {w : World} {b off : Nat} {v : Value} (h : w.cell? ⟨b, off, none⟩ = some v) : b < w.heap.size := World.block_lt_of_cell? w ⟨b, off, none⟩ h
theorem Sl.away {w : World} {B g : Nat} {A : Option Addr} {l : List Nat} (h : Sl w B A l) (hg : B ≤ g) : SlN w g A l := fun i x hx => by
  obtain ⟨h1, b, off, h2, h3, h4⟩ := h i x hx
  exact ⟨h1, b, off, h2, by omega, cell_lt h4, h4⟩
theorem Own.away {w : World} {base g : Nat} {e : TypeId} {A : Option Addr} {c : Nat} {l : List Nat} (h : Own w base e A c l) (hg : g < base) : SlN w g A l := fun i x hx => by
  obtain ⟨h1, b, off, h2, h3, h4⟩ := h.sl i x hx
  subst h2
  have := (h.1.lt b rfl).1
  exact ⟨h1, b, off, rfl, by omega, h3, h4⟩
theorem SlN.grown {w w' : World} {g : Nat} {A : Option Addr} {l : List Nat} (h : SlN w g A l) (hg : w.grownBy w' (some g)) : SlN w' g A l := fun i x hx => by
  obtain ⟨h1, b, off, h2, h3, h4, h5⟩ := h i x hx
  exact ⟨h1, b, off, h2, h3, Nat.lt_of_lt_of_le h4 hg.size, hg.cell h5 (fun e => h3 (by injection e))⟩
theorem SlN.drewN {w : World} {g : Nat} {A : Option Addr} {l : List Nat} (h : SlN w g A l) (n : Nat) : SlN (w.drewN n) g A l := h
theorem SlN.at_ {w : World} {g : Nat} {A : Option Addr} {l : List Nat} (h : SlN w g A l) {k : Nat} (hk : k < l.length) :
    ∃ x b off, l[k]? = some x ∧ x < 256 ∧ A = some ⟨b, off, none⟩ ∧ b ≠ g ∧ w.cell? ⟨b, off + k, none⟩ = some (.int .u8 (x : Int)) := by
  have e := List.getElem?_eq_getElem hk
  obtain ⟨h1, b, off, h2, h3, _, h4⟩ := h k _ e
  exact ⟨_, b, off, e, h1, h2, h3, h4⟩
theorem SlN.take {w : World} {g : Nat} {A : Option Addr} {l : List Nat} (h : SlN w g A l) (n : Nat) : SlN w g A (l.take n) := fun i x hx => by
  rw [List.getElem?_take] at hx
  split at hx
  · exact h i x hx
  · cases hx
theorem SlN.tr {w : World} {g : Nat} {A : Option Addr} {l : List Nat} (h : SlN w g A l) : SlN w g A (Pol.tr l) := by rw [tr_is_take]; exact h.take _
theorem Sl.tr {w : World} {B : Nat} {A : Option Addr} {l : List Nat} (h : Sl w B A l) : Sl w B A (Pol.tr l) := by rw [tr_is_take]; exact h.take _
theorem In.tr {w : World} {B : Nat} {A : Option Addr} {c : Nat} {l : List Nat} (h : In w B A c l) : In w B A c (Pol.tr l) := ⟨h.sl.tr, Nat.le_trans (tr_len l) h.cap, h.none_⟩

/-- The first bytes of one's own row. -/
theorem Own.take {w : World} {base : Nat} {e : TypeId} {A : Option Addr} {c : Nat} {l : List Nat} (h : Own w base e A c l) (n : Nat) : Own w base e A c (l.take n) := by
  refine ⟨⟨by rw [bys_len, Nat.mul_one], ?_⟩, h.2.take n⟩
  rcases h.1.2 with ⟨hv, h0⟩ | ⟨g, cap, cur, hv, hb, hg, hnc, hm, hs, ht⟩
  · left
    injection hv with h1 h2 h3
    have : l = [] := List.eq_nil_of_length_eq_zero h2
    subst this h1 h3
    exact ⟨by simp, by simp⟩
  · right
    injection hv with h1 h2 h3
    subst h1 h3
    have hle : (l.take n).length ≤ l.length := by rw [List.length_take]; omega
    refine ⟨g, c, cur, rfl, hb, hg, by omega, hm, hs, ?_⟩
    have e1 : (bys l).take (l.take n).length = bys (l.take n) := by
      unfold bys
      rw [← List.map_take]
      congr 1
      rw [List.length_take]
      by_cases hn : n ≤ l.length
      · rw [Nat.min_eq_left hn]
      · rw [Nat.min_eq_right (by omega), List.take_of_length_le (Nat.le_refl _), List.take_of_length_le (by omega)]
    rw [← e1, ← ht, List.take_take]
    congr 1
    omega
theorem Own.tr {w : World} {base : Nat} {e : TypeId} {A : Option Addr} {c : Nat} {l : List Nat} (h : Own w base e A c l) : Own w base e A c (Pol.tr l) := by rw [tr_is_take]; exact h.take _
theorem Own.lt {w : World} {base g off c : Nat} {e : TypeId} {l : List Nat} (h : Own w base e (some ⟨g, off, none⟩) c l) : base ≤ g ∧ g < w.heap.size := h.1.lt g rfl
/-- It stays over what turns another block alone. -/
theorem Own.grown {w w' : World} {base g : Nat} {e : TypeId} {A : Option Addr} {c : Nat} {l : List Nat} (h : Own w base e A c l) (hg : w.grownBy w' (some g)) (hne : ∀ o, A ≠ some ⟨g, o, none⟩) : Own w' base e A c l := by
  refine ⟨h.1.kept hg ?_, h.2⟩
  rcases h.1.2 with ⟨hv, _⟩ | ⟨g2, cap, cur, hv, _⟩
  · injection hv with h1; subst h1; exact .inl rfl
  · injection hv with h1; subst h1; exact .inr (fun e => by simp [Value.ownBlock] at e; exact hne 0 (by rw [e]))
/-- 'make([]byte, n)'. -/
theorem Own.made (w : World) (e : TypeId) (n : Nat) (h : n ≤ 140737488355328) : Own (w.alloc (.cells (madeCells #[.int .u8 0] n) e)) w.heap.size e (some ⟨w.heap.size, 0, none⟩) n (List.replicate n 0) := by
  have hm : (madeCells #[Value.int .u8 0] n).toList = bys (List.replicate n 0) := by
    refine List.ext_getElem (by simp [madeCells, bys]) fun i h1 h2 => ?_
    simp [madeCells, bys, Nat.mod_one]
  have h1 := World.ownsRow_lit (base := w.heap.size) (e := e) (size := 1) w (madeCells #[.int .u8 0] n) n (Nat.le_refl _) (by simp only [maxLen]; omega) (by simp [madeCells])
  rw [hm] at h1
  refine ⟨by rw [List.length_replicate]; exact h1, fun x hx => by rw [List.eq_of_mem_replicate hx]; omega⟩
/-- A byte of it is turned. -/
theorem Own.put {w : World} {base : Nat} {e : TypeId} {g c : Nat} {l : List Nat} (h : Own w base e (some ⟨g, 0, none⟩) c l) {k : Nat} (hk : k < l.length) {y : Nat} (hy : y < 256) :
    Own (w.setCell ⟨g, k, none⟩ (.int .u8 (y : Int))) base e (some ⟨g, 0, none⟩) c (l.set k y) := by
  obtain ⟨g2, e2, _, h2⟩ := h.store hk
  injection e2 with e2
  injection e2 with e3
  subst e3
  exact h2 y hy
theorem Own.cell {w : World} {base : Nat} {e : TypeId} {g c : Nat} {l : List Nat} (h : Own w base e (some ⟨g, 0, none⟩) c l) {k : Nat} (hk : k < l.length) : w.cell? ⟨g, k, none⟩ = some (.int .u8 (co l k : Int)) := by
  obtain ⟨_, b, off, h2, _, h4⟩ := h.sl k _ (List.getElem?_eq_getElem hk)
  injection h2 with h2
  injection h2 with h3 h5
  subst h3 h5
  rw [Nat.zero_add] at h4
  rw [h4, co_get hk]
theorem grown_put {w w' : World} {g k : Nat} (h : w.grownBy w' (some g)) (v : Value) : w.grownBy (w'.setCell ⟨g, k, none⟩ v) (some g) := Lib.grownBy_setB h k v
theorem grown_drewN {w w' : World} {row : Option Nat} (h : w.grownBy w' row) (n : Nat) : w.grownBy (w'.drewN n) row := ⟨h.os, h.tape, h.output, h.size, h.block⟩
theorem grown_drew {w w' : World} {row : Option Nat} (h : w.grownBy w' row) : w.grownBy w'.drew row := ⟨h.os, h.tape, h.output, h.size, h.block⟩
theorem Below.by {w w' : World} {B g : Nat} (h : w.grownBy w' (some g)) (hB : B ≤ w.heap.size) (hg : B ≤ g) : Below B w w' := (Below.refl B w).grown h hB (fun k e => by injection e with e; omega)
theorem Below.grown {w w' : World} {g : Nat} (h : Below w.heap.size w w') : w.grownBy w' (some g) := ⟨h.os, h.tape, h.output, h.size, fun k hk _ => h.block k hk⟩
/-- 'copy' lays l over the first bytes of n noughts. -/
theorem copied {w : World} {base g n c : Nat} {e : TypeId} {l : List Nat} (hbase : base ≤ g) (hg : w.heap[g]? = some (.cells (splice (bys (List.replicate n 0)) 0 (bys l)).toArray e (0, 0))) (hl : l.length ≤ n) (hbb : BB l) (hc : c = n) (hm : n ≤ 140737488355328) :
    Own w base e (some ⟨g, 0, none⟩) c (l ++ List.replicate (n - l.length) 0) := by
  subst hc
  have e1 : splice (bys (List.replicate c 0)) 0 (bys l) = bys (l ++ List.replicate (c - l.length) 0) := by
    unfold splice
    rw [List.take_zero, List.nil_append, bys_len, Nat.zero_add, bys_app]
    congr 1
    unfold bys
    rw [← List.map_drop, List.drop_replicate]
  rw [e1] at hg
  have hlen : (l ++ List.replicate (c - l.length) 0).length = c := by simp; omega
  refine ⟨⟨by rw [bys_len, Nat.mul_one], .inr ⟨g, c, _, rfl, hbase, hg, by omega, by simp only [maxLen]; omega, by simp [bys_len]; omega, ?_⟩⟩, hbb.append (fun x hx => by rw [List.eq_of_mem_replicate hx]; omega)⟩
  rw [Nat.mul_one, hlen]
  exact List.take_of_length_le (by simp [bys_len]; omega)
theorem made_bys (n : Nat) : madeCells #[Value.int .u8 0] n = (bys (List.replicate n 0)).toArray := by
  apply Array.toList_inj.1
  refine List.ext_getElem (by simp [madeCells, bys]) fun i h1 h2 => ?_
  simp [madeCells, bys, Nat.mod_one]
theorem addr_add (b off j : Nat) : (⟨b, off, none⟩ : Addr).add j = ⟨b, off + j, none⟩ := by
  unfold Addr.add; split
  · rename_i h0; subst h0; rfl
  · rfl
/-- 'copy' onto what 'make' has laid. -/
theorem run_copied {P : Program} {w : World} (t ty e : TypeId) (hu : P.underlying t = some (.slice e)) (hs : (P.info? e).map (·.size) = some 1) (n m c : Nat) {A : Option Addr} {B : Nat} {p : List Nat} (hp : Sl w B A p) (hB : B ≤ w.heap.size) (hm : m = p.length) (hn : m ≤ n) (hnb : n ≤ 140737488355328) :
    ∃ w2, (Builtin.copy_ #[t, t] ty #[.slice (some ⟨w.heap.size, 0, none⟩) n n, .slice A m c]).run P (w.alloc (.cells (madeCells #[.int .u8 0] n) e)) = .ok (.int .i64 (m : Int)) w2 ∧
      Own w2 w.heap.size e (some ⟨w.heap.size, 0, none⟩) n (p ++ List.replicate (n - p.length) 0) ∧ Below w.heap.size w w2 := by
  subst hm
  have hB1 : Below w.heap.size w (w.alloc (.cells (madeCells #[.int .u8 0] n) e)) := (Below.refl _ _).alloc (Nat.le_refl _) _
  have hnew : (w.alloc (.cells (madeCells #[.int .u8 0] n) e)).heap[w.heap.size]? = some (.cells (bys (List.replicate n 0)).toArray e (0, 0)) := by
    rw [World.alloc_heap_new, made_bys]
  by_cases h0 : p.length = 0
  · have hr := run_copy_none (P := P) (w.alloc (.cells (madeCells #[.int .u8 0] n) e)) t t ty e (some ⟨w.heap.size, 0, none⟩) A n n p.length c hu hs (by rw [h0]; exact Nat.zero_min _)
    refine ⟨_, hr.trans (by rw [h0]; rfl), ?_, hB1⟩
    have hp0 : p = [] := List.eq_nil_of_length_eq_zero h0
    subst hp0
    exact Own.made w e n hnb
  · obtain ⟨x, b, off, hx, _, rfl, _, _⟩ := hp.at_ (k := 0) (by omega)
    have hr := run_copy_row (P := P) (w.alloc (.cells (madeCells #[.int .u8 0] n) e)) t t ty e w.heap.size 0 n n ⟨b, off, none⟩ p.length c _ e (bys p) hu hs hnew (by rw [bys_len]; exact (Nat.min_eq_left hn).symm) (fun j v hj => by
      obtain ⟨y, hy, rfl⟩ := bys_get hj
      obtain ⟨_, b', off', e', hb', hc'⟩ := hp j y hy
      injection e' with e'
      injection e' with e1 e2
      subst e1 e2
      rw [addr_add]
      exact (World.cell?_alloc_lt w _ _ (by show b < _; omega)).trans hc') (by simp [bys_len]; exact hn) (bys_one p)
    refine ⟨_, hr.trans (by rw [bys_len]; rfl), ?_, below_setRow hB1 (Nat.le_refl _) _⟩
    refine copied (Nat.le_refl _) ?_ hn hp.bb rfl hnb
    rw [setRow_heap _ _ _ _ _ _ hnew]
    simp [splice, bys_len]
theorem co_of' {l : List Nat} {k x : Nat} (h : l[k]? = some x) : co l k = x := by simp [co, h]
end Gw
end
