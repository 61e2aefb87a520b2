/- Values of which some are turned, in numbers; append of one-cell values as one step of a region that leaves its order open. -/
import Derived.Test.YtmcfkgjkfceomaaBwh
import Derived.Test.YtmcfkgjkfceomaaRpb
import Derived.Deep.DeepCutAuto
namespace Gw
open Go Go.RowKit Go.Shelf
/-- append, of whatever one-cell values, as one step of a region that leaves its order open. -/
theorem step_apV {P : Program} {w : World} {ops : Array Oper} {o : Oper} {a : Act} {K : Act → World → Prop} {Q : Exit → Act → World → Prop} {E : Prop} (hgd : o.guard = none) (s x : Operand) (t : TypeId)
    (ho : o.op = .call { callee := .builtin .append, args := #[s, x], argTypes := #[t, t] })
    (base : Nat) (e : TypeId) (i : TypeInfo) (z : Value) (size bytes : Nat) (ht : P.underlying t = some (.slice e)) (hi : P.info? e = some i) (hz : i.zero = some z)
    (hsize : i.size = size) (hby : i.bytes = bytes) (hzs : z.cells.size = size) (hsz : 0 < size)
    (v : Value) (n : Nat) (xs : List Value) (hs : a.eval s = v) (hown : w.ownsRow base e size v n xs)
    (ad : Addr) (m c : Nat) (news : List Value) (hx : a.eval x = .slice (some ad) m c) (hl : news.length = m * size) (hnews : ∀ j u, news[j]? = some u → w.cell? (ad.add j) = some u) (h1 : ∀ u ∈ news, u.oneCell' = true)
    (h63 : n + m ≤ maxLen) (hbytes : (n + m) * bytes ≤ 140737488355328) (hbase : base ≤ w.heap.size)
    (h : ∀ v' w', w'.ownsRow base e size v' (n + m) (xs ++ news) → w.grownBy w' v.ownBlock → K (a.put o.dst v') w') : if Region.wanted o (yielded ops a.tmps) = true then Oper.wp P o a w K Q else E := by
  have hw : Region.wanted o (yielded ops a.tmps) = true := by simp [Region.wanted, hgd]
  rw [if_pos hw]
  exact wp_append_own w s x t ho base e i z size bytes ht hi hz hsize hby hzs hsz v n xs hs hown ad m c news hx hl hnews h1 h63 hbytes hbase fun v' w' h2 h3 _ => h v' w' h2 h3
end Gw
namespace Pol
open Go.Proofs.Ytmcfkgjkfceomaa
/-- The values, of which some are turned. -/
def tys (p xs t : List Nat) (k : Nat) : List Nat := (List.range k).map (fun i => ev (co xs i) p ^^^ co t i)
theorem tys_len (p xs t : List Nat) (k : Nat) : (tys p xs t k).length = k := by simp [tys]
theorem tys_succ (p xs t : List Nat) (k : Nat) : tys p xs t (k + 1) = tys p xs t k ++ [ev (co xs k) p ^^^ co t k] := by simp [tys, List.range_succ]
theorem co_tys (p xs t : List Nat) {k j : Nat} (h : j < k) : co (tys p xs t k) j = ev (co xs j) p ^^^ co t j := by simp [co, tys, h]
/-- The places that are turned. -/
def wnt (t : List Nat) : Nat → List Nat
  | 0 => []
  | k + 1 => if co t k = 0 then wnt t k else wnt t k ++ [k]
theorem wnt_len (t : List Nat) (k : Nat) : (wnt t k).length ≤ k := by
  induction k with
  | zero => simp [wnt]
  | succ k ih => unfold wnt; split <;> (try rw [List.length_append, List.length_singleton]) <;> omega
theorem xor_self_iff (a b : Nat) : a = a ^^^ b ↔ b = 0 := by
  constructor
  · intro h
    have : a ^^^ (a ^^^ b) = a ^^^ a := by rw [← h]
    rw [← Nat.xor_assoc, Nat.xor_self, Nat.zero_xor] at this
    exact this
  · intro h; rw [h, Nat.xor_zero]
theorem wrTo_tys (p xs t : List Nat) (n : Nat) : ∀ k, k ≤ n → wrTo (tr p) xs (tys p xs t n) k = wnt t k := by
  intro k
  induction k with
  | zero => intro _; rfl
  | succ k ih =>
    intro hk
    unfold wrTo wnt
    rw [ih (by omega), ev_tr, co_tys p xs t (by omega)]
    by_cases h : co t k = 0
    · rw [if_pos ((xor_self_iff _ _).2 h), if_pos h]
    · rw [if_neg (fun e => h ((xor_self_iff _ _).1 e)), if_neg h]
/-- What was turned a little is agreed on. -/
theorem agd_tys {p xs t : List Nat} {n m : Nat} (hp : BB p) (hn : xs.Nodup) (hl : xs.length ≤ 255) (hlp : (tr p).length ≤ n + 1) (hn1 : n ≤ 255) (hm1 : m ≤ 255) (h1 : (wnt t xs.length).length ≤ m) (h2 : (wnt t xs.length).length + (n + 1 + m) ≤ xs.length) :
    Agd xs (tys p xs t xs.length) (n : Int) (m : Int) (tr p) := by
  have e := wrTo_tys p xs t xs.length xs.length (Nat.le_refl _)
  exact ⟨tr_bb hp, tr_tr p, (tys_len _ _ _ _).symm, hl, hn, by omega, by omega, by omega, by omega, by omega, by rw [e]; omega, by rw [e]; omega⟩
/-- Nothing else is. -/
theorem agd_never {p q xs t : List Nat} {n m : Nat} (hp : BB p) (hx : BB xs) (hlp : (tr p).length ≤ n + 1) (h : Agd xs (tys p xs t xs.length) (n : Int) (m : Int) q) (h1 : (wnt t xs.length).length ≤ m) : q = tr p := by
  have e := wrTo_tys p xs t xs.length xs.length (Nat.le_refl _)
  have a1 := wrTo_agr (tr p) xs (tys p xs t xs.length) xs.length
  have a2 := wrTo_agr q xs (tys p xs t xs.length) xs.length
  rw [e] at a1
  have := h.own; have := h.deg
  exact agr_alone (D := n + 1) (ys := tys p xs t xs.length) h.bb (tr_bb hp) h.tr_ (tr_tr p) hx h.un (by omega) hlp (by omega)
end Pol
namespace Go.Proofs.Ytmcfkgjkfceomaa
open Go.RowKit Go.Shelf Gw Pol
/-- When a value has been appended. -/
theorem tys_step {w wr w2 : World} {Ao A2 : Option Addr} {co' c2 : Nat} {p xs t : List Nat} {k v : Nat} (hv : ev (co xs k) p ^^^ co t k = v) (hbel : Below w.heap.size w wr) (ho : Gw.Own wr w.heap.size 5 Ao co' (tys p xs t k)) {o : Obj}
    (hown : Gw.Own w2 w.heap.size 5 A2 c2 (tys p xs t k ++ [v])) (hg : (wr.alloc o).grownBy w2 (Value.slice Ao k co').ownBlock) : Gw.Own w2 w.heap.size 5 A2 c2 (tys p xs t (k + 1)) ∧ Below w.heap.size w w2 := by
  rw [tys_succ, hv]
  exact ⟨hown, below_app hbel hbel.size ho hg⟩
end Go.Proofs.Ytmcfkgjkfceomaa
