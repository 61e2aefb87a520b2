/- Two rows of bytes of the call's own that grow side by side. -/
import Derived.Test.YtmcfkgjkfceomaaPkj
import Derived.Test.YtmcfkgjkfceomaaRpe
import Derived.Deep.RegionHeldLaw
namespace Gw
open Go Go.RowKit Go.Shelf
/-- append of one-cell values, with where the new slice lies, as one step of a region that leaves its order open. -/
theorem step_apAt {P : Program} {w : World} {ops : Array Oper} {o : Oper} {a : Act} {K : Act → World → Prop} {Q : Exit → Act → World → Prop} {E : Prop} (hgd : o.guard = none) (s x : Operand) (t : TypeId)
    (ho : o.op = .call { callee := .builtin .append, args := #[s, x], argTypes := #[t, t] })
    (base : Nat) (e : TypeId) (i : TypeInfo) (z : Value) (size bytes : Nat) (ht : P.underlying t = some (.slice e)) (hi : P.info? e = some i) (hz : i.zero = some z)
    (hsize : i.size = size) (hby : i.bytes = bytes) (hzs : z.cells.size = size) (hsz : 0 < size)
    (v : Value) (n : Nat) (xs : List Value) (hs : a.eval s = v) (hown : w.ownsRow base e size v n xs)
    (ad : Addr) (m c : Nat) (news : List Value) (hx : a.eval x = .slice (some ad) m c) (hl : news.length = m * size) (hnews : ∀ j u, news[j]? = some u → w.cell? (ad.add j) = some u) (h1 : ∀ u ∈ news, u.oneCell' = true)
    (h63 : n + m ≤ maxLen) (hbytes : (n + m) * bytes ≤ 140737488355328) (hbase : base ≤ w.heap.size)
    (h : ∀ v' w', w'.ownsRow base e size v' (n + m) (xs ++ news) → w.grownBy w' v.ownBlock → (v'.ownBlock = v.ownBlock ∨ v'.ownBlock = some w.heap.size) → K (a.put o.dst v') w') : if Region.wanted o (yielded ops a.tmps) = true then Oper.wp P o a w K Q else E := by
  have hw : Region.wanted o (yielded ops a.tmps) = true := by simp [Region.wanted, hgd]
  rw [if_pos hw]
  obtain ⟨v', w', hr, h2, h3, _, h4⟩ := run_append_own_at (P := P) w base t o.type e i z size bytes ht hi hz hsize hby hzs hsz v n xs hown ad m c news hl hnews h1 h63 hbytes hbase
  unfold Oper.wp execOp
  simp only [ho, resolve, invoke, builtin, Sem.run_bind, Sem.run_pure, Result.andThen_ok, List.map_toArray, List.map_cons, List.map_nil, hs, hx, hr]
  exact h v' w' h2 h3 h4

/-- Two rows, each in a block of its own. -/
structure AB (base : Nat) (e : TypeId) (W : World) (A : Option Addr) (c : Nat) (l : List Nat) (A' : Option Addr) (c' : Nat) (l' : List Nat) : Prop where
  a : Own W base e A c l
  b : Own W base e A' c' l'
  dis : ∀ g n n' : Nat, (Value.slice A n c).ownBlock = some g → (Value.slice A' n' c').ownBlock ≠ some g
section
variable {base c c' : Nat} {e : TypeId} {W W' : World} {A A' : Option Addr} {l l' : List Nat}
theorem AB.alloc (h : AB base e W A c l A' c' l') (o : Obj) : AB base e (W.alloc o) A c l A' c' l' := ⟨h.a.alloc o, h.b.alloc o, h.dis⟩
theorem AB.drewN (h : AB base e W A c l A' c' l') (n : Nat) : AB base e (W.drewN n) A c l A' c' l' := ⟨h.a.drewN n, h.b.drewN n, h.dis⟩
theorem AB.swap (h : AB base e W A c l A' c' l') : AB base e W A' c' l' A c l := ⟨h.b, h.a, fun g n n' h1 h2 => h.dis g n' n h2 h1⟩
theorem ownB {W : World} {base c n : Nat} {e : TypeId} {A : Option Addr} {l : List Nat} (h : Own W base e A c l) {r : Nat} (hr : (Value.slice A n c).ownBlock = some r) : base ≤ r ∧ r < W.heap.size := by
  rcases h.1.2 with ⟨hv, _⟩ | ⟨g, cap, cur, hv, hb, hg, _⟩
  · injection hv with h1 _ h3; subst h1; cases hr
  · injection hv with h1 _ h3
    subst h1
    simp [Value.ownBlock] at hr
    subst hr
    exact ⟨hb, (Array.getElem?_eq_some_iff.1 hg).1⟩
/-- The first one has grown by a byte. -/
theorem AB.app {v' : Value} {n v : Nat} (h : AB base e W A c l A' c' l') (hv : v < 256) (hown : W'.ownsRow base e 1 v' (n + 1) (bys l ++ [.int .u8 (v : Int)])) (hg : W.grownBy W' (Value.slice A n c).ownBlock) (hat : v'.ownBlock = (Value.slice A n c).ownBlock ∨ v'.ownBlock = some W.heap.size) :
    ∃ A2 c2, v' = .slice A2 (l ++ [v]).length c2 ∧ AB base e W' A2 c2 (l ++ [v]) A' c' l' := by
  obtain ⟨A2, c2, rfl, hO⟩ := Own.mk' (l := l ++ [v]) (by rw [bys_app]; exact hown) (Pol.BB.append h.a.2 (Pol.BB.cons hv Pol.BB.nil))
  refine ⟨A2, c2, rfl, hO, ?_, fun g m m' h1 h2 => ?_⟩
  · refine ⟨⟨h.b.1.1, ?_⟩, h.b.2⟩
    rcases h.b.1.2 with h0 | ⟨g, cap, cur, hv, hb, hgb, h0⟩
    · exact .inl h0
    · refine .inr ⟨g, cap, cur, hv, hb, (hg.block g (Array.getElem?_eq_some_iff.1 hgb).1 (fun e => ?_)).trans hgb, h0⟩
      injection hv with h1 _ h3
      refine h.dis g n l'.length e.symm ?_
      subst h1
      simp [Value.ownBlock]
  · have h3 : (Value.slice A2 (l ++ [v]).length c2).ownBlock = some g := own_any h1
    rw [h3] at hat
    rcases hat with h4 | h4
    · exact h.dis g n m' h4.symm h2
    · injection h4 with h4
      have := (ownB h.b h2).2
      omega
theorem AB.below {w : World} {n : Nat} (h : AB base e W A c l A' c' l') (hB : Below base w W) (hs : base ≤ W.heap.size) (hg : W.grownBy W' (Value.slice A n c).ownBlock) : Below base w W' := hB.grown hg hs (fun _ hk => (ownB h.a hk).1)
theorem grown_cell {n p : Nat} {v : Value} (hg : W.grownBy W' (Value.slice A n c).ownBlock) (hc : W.cell? ⟨p, 0, none⟩ = some v) (hp : ∀ r, (Value.slice A n c).ownBlock = some r → r < p) : W'.cell? ⟨p, 0, none⟩ = some v :=
  (World.cell?_of_block (w := W) (a := ⟨p, 0, none⟩) (hg.block p (cell_lt hc) (fun e => by have := hp p e.symm; omega))).trans hc
theorem AB.start (W : World) (base : Nat) (e : TypeId) : AB base e W none 0 [] none 0 [] := ⟨Own.none_ _ _ _, Own.none_ _ _ _, fun g n n' h => by cases h⟩
end
theorem news_one {W : World} {p : Nat} {v : Value} (h : W.cell? ⟨p, 0, none⟩ = some v) : ∀ j u, ([v] : List Value)[j]? = some u → W.cell? ((⟨p, 0, none⟩ : Addr).add j) = some u := fun j u hj => by
  match j, hj with
  | 0, hj => simp at hj; subst hj; rw [addr_add]; exact h
theorem cell_1a (w : World) (v : Value) (t : TypeId) (o : Obj) : ((w.alloc (.cells #[v] t)).alloc o).cell? ⟨w.heap.size, 0, none⟩ = some v := by
  rw [World.cell?_alloc_lt _ _ _ (by simp)]; exact cell_new w v t
theorem cell_2a (w : World) (v : Value) (t : TypeId) (o : Obj) : ((w.alloc o).alloc (.cells #[v] t)).cell? ⟨w.heap.size + 1, 0, none⟩ = some v := by
  have := cell_new (w.alloc o) v t
  rw [World.size_alloc] at this
  exact this
end Gw
