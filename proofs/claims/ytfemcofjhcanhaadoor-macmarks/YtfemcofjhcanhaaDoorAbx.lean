/- Two rows of bytes of the call's own, each in a block of its own. -/
import Derived.Test.YtfemcofjhcanhaaDoorByt
import Derived.Maps.AppendAt
namespace Gw
open Go Go.RowKit Go.Shelf
/-- Two rows, each in a block of its own. -/
structure AB (base : Nat) (e : TypeId) (W : World) (A : Option Addr) (c : Nat) (l : List Nat) (A' : Option Addr) (c' : Nat) (l' : List Nat) : Prop where
  a : Own W base e A c l
  b : Own W base e A' c' l'
  dis : ∀ g n n' : Nat, (Value.slice A n c).ownBlock = some g → (Value.slice A' n' c').ownBlock ≠ some g
section
variable {base c c' : Nat} {e : TypeId} {W W' : World} {A A' : Option Addr} {l l' : List Nat}
theorem AB.alloc (h : AB base e W A c l A' c' l') (o : Obj) : AB base e (W.alloc o) A c l A' c' l' := ⟨h.a.alloc o, h.b.alloc o, h.dis⟩
theorem AB.drewN (h : AB base e W A c l A' c' l') (n : Nat) : AB base e (W.drewN n) A c l A' c' l' := ⟨h.a.drewN n, h.b.drewN n, h.dis⟩
theorem AB.swap (h : AB base e W A c l A' c' l') : AB base e W A' c' l' A c l := ⟨h.b, h.a, fun g n n' h1 h2 => h.dis g n' n h2 h1⟩
theorem ownB {W : World} {base c n : Nat} {e : TypeId} {A : Option Addr} {l : List Nat} (h : Own W base e A c l) {r : Nat} (hr : (Value.slice A n c).ownBlock = some r) : base ≤ r ∧ r < W.heap.size := by
  rcases h.1.2 with ⟨hv, _⟩ | ⟨g, cap, cur, hv, hb, hg, _⟩
  · injection hv with h1 _ h3; subst h1; cases hr
  · injection hv with h1 _ h3
    subst h1
    simp [Value.ownBlock] at hr
    subst hr
    exact ⟨hb, (Array.getElem?_eq_some_iff.1 hg).1⟩
/-- The first one has grown by a byte. -/
theorem AB.app {v' : Value} {n v : Nat} (h : AB base e W A c l A' c' l') (hv : v < 256) (hown : W'.ownsRow base e 1 v' (n + 1) (bys l ++ [.int .u8 (v : Int)])) (hg : W.grownBy W' (Value.slice A n c).ownBlock) (hat : v'.ownBlock = (Value.slice A n c).ownBlock ∨ v'.ownBlock = some W.heap.size) :
    ∃ A2 c2, v' = .slice A2 (l ++ [v]).length c2 ∧ AB base e W' A2 c2 (l ++ [v]) A' c' l' := by
  obtain ⟨A2, c2, rfl, hO⟩ := Own.mk' (l := l ++ [v]) (by rw [bys_app]; exact hown) (Pol.BB.append h.a.2 (Pol.BB.cons hv Pol.BB.nil))
  refine ⟨A2, c2, rfl, hO, ?_, fun g m m' h1 h2 => ?_⟩
  · refine ⟨⟨h.b.1.1, ?_⟩, h.b.2⟩
    rcases h.b.1.2 with h0 | ⟨g, cap, cur, hv, hb, hgb, h0⟩
    · exact .inl h0
    · refine .inr ⟨g, cap, cur, hv, hb, (hg.block g (Array.getElem?_eq_some_iff.1 hgb).1 (fun e => ?_)).trans hgb, h0⟩
      injection hv with h1 _ h3
      refine h.dis g n l'.length e.symm ?_
      subst h1
      simp [Value.ownBlock]
  · have h3 : (Value.slice A2 (l ++ [v]).length c2).ownBlock = some g := own_any h1
    rw [h3] at hat
    rcases hat with h4 | h4
    · exact h.dis g n m' h4.symm h2
    · injection h4 with h4
      have := (ownB h.b h2).2
      omega
theorem AB.below {w : World} {n : Nat} (h : AB base e W A c l A' c' l') (hB : Below base w W) (hs : base ≤ W.heap.size) (hg : W.grownBy W' (Value.slice A n c).ownBlock) : Below base w W' := hB.grown hg hs (fun _ hk => (ownB h.a hk).1)
theorem grown_cell {n p : Nat} {v : Value} (hg : W.grownBy W' (Value.slice A n c).ownBlock) (hc : W.cell? ⟨p, 0, none⟩ = some v) (hp : ∀ r, (Value.slice A n c).ownBlock = some r → r < p) : W'.cell? ⟨p, 0, none⟩ = some v :=
  (World.cell?_of_block (w := W) (a := ⟨p, 0, none⟩) (hg.block p (cell_lt hc) (fun e => by have := hp p e.symm; omega))).trans hc
/-- The second one stands where the first is turned. -/
theorem AB.other {n : Nat} (h : AB base e W A c l A' c' l') (hg : W.grownBy W' (Value.slice A n c).ownBlock) : Own W' base e A' c' l' := by
  refine ⟨⟨h.b.1.1, ?_⟩, h.b.2⟩
  rcases h.b.1.2 with h0 | ⟨g, cap, cur, hv, hb, hgb, h0⟩
  · exact .inl h0
  · refine .inr ⟨g, cap, cur, hv, hb, (hg.block g (Array.getElem?_eq_some_iff.1 hgb).1 (fun e => ?_)).trans hgb, h0⟩
    injection hv with h1 _ h3
    refine h.dis g n l'.length e.symm ?_
    subst h1
    simp [Value.ownBlock]
theorem AB.start (W : World) (base : Nat) (e : TypeId) : AB base e W none 0 [] none 0 [] := ⟨Own.none_ _ _ _, Own.none_ _ _ _, fun g n n' h => by cases h⟩
end
theorem news_one {W : World} {p : Nat} {v : Value} (h : W.cell? ⟨p, 0, none⟩ = some v) : ∀ j u, ([v] : List Value)[j]? = some u → W.cell? ((⟨p, 0, none⟩ : Addr).add j) = some u := fun j u hj => by
  match j, hj with
  | 0, hj => simp at hj; subst hj; rw [addr_add]; exact h
end Gw
