/- 'append(s, make([]byte, k)...)' onto what the call has made: noughts behind. -/
import Derived.Test.YtfemcofjhcanhaaDoorByt
import Derived.Lib.AppendZerosOnto
namespace Gw
open Go Go.RowKit Go.Shelf Pol
theorem zero_bys (n : Nat) : Builtin.zeroCells #[Value.int .u8 0] n = (bys (List.replicate n 0)).toArray := by
  apply Array.toList_inj.1
  refine List.ext_getElem (by simp [Builtin.zeroCells, bys]) fun i h1 h2 => ?_
  simp [Builtin.zeroCells, bys, Nat.mod_one]
theorem run_append_room_zeros {P : Program} (w : World) (t tn ty e : TypeId) (i : TypeInfo) (z : Value) (kq kn : IntKind) (ht : P.underlying t = some (.slice e)) (htn : P.underlying tn = some (.int kn)) (hi : P.info? e = some i) (hz : i.zero = some z)
    (g sLen sCap : Nat) (cur : Array Value) (hg : w.heap[g]? = some (.cells cur e (0, 0))) (k : Nat) (h0 : 0 < k) (hs : 0 < i.size) (h48 : k * i.bytes ≤ 281474976710656) (h63 : k ≤ 9223372036854775807)
    (news : List Value) (hnews : Builtin.zeroCells z.cells k = news.toArray) (h1 : ∀ u ∈ news, u.oneCell' = true) (hroom : sLen + k ≤ sCap) (hfit : sLen * i.size + news.length ≤ cur.size) :
    (Builtin.append_ #[t, tn] ty #[.slice (some ⟨g, 0, none⟩) sLen sCap, .int kq k]).run P w =
      .ok (.slice (some ⟨g, 0, none⟩) (sLen + k) sCap) (w.setRow g (cur.toList.take (sLen * i.size) ++ news ++ cur.toList.drop (sLen * i.size + news.length)).toArray) := by
  have hk : k ≠ 0 := by omega
  have hw : IntKind.i64.wrap (k : Int) = k := by rw [IntKind.wrap_i64]; omega
  have h48i : ¬ (281474976710656 < (k : Int) * (i.bytes : Int)) := by
    rw [← Int.natCast_mul]
    omega
  have hneg : ¬ ((k : Int) < 0) := by omega
  have hns : ¬ (k * i.size = 0) := Nat.mul_ne_zero hk (by omega)
  have hst := run_storeCells_at P g (sLen * i.size) e news 0 cur w hg (by simpa using hfit) h1
  simp only [Nat.add_zero] at hst
  simp [Builtin.append_, run_underlying ht, run_underlying htn, Go.sizeOf, typeInfo, zeroValue, hi, hz, asInt, asIntOf, hw, hneg, hns, h48i, hroom, hnews, Addr.add_lit, hst]
/-- What it answers: some slice of the call's own, that holds both. -/
theorem run_appZ {P : Program} {w : World} (t tn ty : TypeId) (kn : IntKind) (base : Nat) (e : TypeId) (i : TypeInfo) (ht : P.underlying t = some (.slice e)) (htn : P.underlying tn = some (.int kn)) (hi : P.info? e = some i) (hz : i.zero = some (.int .u8 0))
    (hsize : i.size = 1) (hby : i.bytes = 1)
    (A : Option Addr) (n c : Nat) (l : List Nat) (hn : n = l.length) (hown : Own w base e A c l) (k : Nat) (h0 : 0 < k)
    (hbytes : l.length + k ≤ 140737488355328) (hbase : base ≤ w.heap.size) :
    ∃ A2 c2 w', (Builtin.append_ #[t, tn] ty #[.slice A n c, .int .i64 (k : Int)]).run P w = .ok (.slice A2 (l ++ List.replicate k 0).length c2) w' ∧ Own w' base e A2 c2 (l ++ List.replicate k 0) ∧ w.grownBy w' (Value.slice A n c).ownBlock := by
  subst hn
  have hlen : (l ++ List.replicate k 0).length = l.length + k := by simp
  have hbb : BB (l ++ List.replicate k 0) := hown.2.append (fun x hx => by rw [List.eq_of_mem_replicate hx]; omega)
  -- what the growing arm leaves
  have grown : ∀ r, (Builtin.firstCells i.size l.length (.slice A l.length c)).run P w.drew = .ok (bys l).toArray w.drew → c < l.length + k →
      ∃ A2 c2 w', (Builtin.append_ #[t, tn] ty #[.slice A l.length c, .int .i64 (k : Int)]).run P w = .ok (.slice A2 (l ++ List.replicate k 0).length c2) w' ∧ Own w' base e A2 c2 (l ++ List.replicate k 0) ∧ w.grownBy w' r := by
    intro r hf hroom
    have hr := Lib.run_append_grow_zeros (P := P) w t tn ty e i (.int .u8 0) .i64 kn ht htn hi hz A l.length c (bys l) hf k h0 (by omega) (by omega) (by omega) (by rw [hby]; omega) (growslice_fits (by omega) (by rw [hby]; omega))
    have hge := grownCap_ge w (l.length + k) c e
    have hcm2 : grownCap w (l.length + k) c e ≤ maxLen := grownCap_le_maxLen w (l.length + k) c e (by simp only [maxLen]; omega)
    refine ⟨_, _, _, hr.trans (by rw [hlen]), ⟨⟨by rw [bys_len, Nat.mul_one], .inr ⟨w.heap.size, _, _, rfl, hbase, heap_alloc_new w.drew _, by omega, hcm2, ?_, ?_⟩⟩, hbb⟩, ⟨rfl, rfl, rfl, by simp, fun j hj _ => heap_alloc_old w.drew _ hj⟩⟩
    · simp only [Array.size_append, List.size_toArray, bys_len]
      rw [show (Value.int .u8 0).cells = #[Value.int .u8 0] from rfl, zero_bys, zero_bys]
      simp only [List.size_toArray, bys_len, List.length_replicate]
      omega
    · rw [show (Value.int .u8 0).cells = #[Value.int .u8 0] from rfl, zero_bys, zero_bys, Nat.mul_one]
      simp only [Array.toList_append]
      rw [← bys_app]
      exact List.take_left' (by rw [bys_len])
  rcases hown.1.2 with ⟨hv, hl0⟩ | ⟨g, cap, cur, hv, hbg, hg, hnc, hcm, hcs, htake⟩
  · injection hv with hA _ hc
    subst hA hc
    have hl : l = [] := List.eq_nil_of_length_eq_zero hl0
    subst hl
    exact grown _ rfl (by omega)
  injection hv with hA hn hc
  subst hA hc
  rw [Nat.mul_one] at hcs htake
  by_cases hroom : l.length + k ≤ c
  · have hr := run_append_room_zeros (P := P) w t tn ty e i (.int .u8 0) .i64 kn ht htn hi hz g l.length c cur hg k h0 (by omega) (by rw [hby]; omega) (by omega) (bys (List.replicate k 0)) (zero_bys k) (bys_one _) hroom (by rw [hsize, bys_len, List.length_replicate]; omega)
    rw [hsize, Nat.mul_one, htake, ← bys_app] at hr
    refine ⟨_, _, _, hr.trans (by rw [hlen]), ⟨⟨by rw [bys_len, Nat.mul_one], .inr ⟨g, c, _, rfl, hbg, setRow_heap w g cur _ e _ hg, by omega, hcm, ?_, ?_⟩⟩, hbb⟩, ⟨rfl, rfl, rfl, by simp, fun j _ hj => setRow_other w g j _ (fun e => hj (by rw [e]; simp [Value.ownBlock]))⟩⟩
    · simp only [List.size_toArray, List.length_append, List.length_drop, Array.length_toList, bys_len, List.length_replicate]
      omega
    · rw [Nat.mul_one, hlen]
      exact List.take_left' (by rw [bys_len, hlen])
  · have holds : ∀ j u, (bys l)[j]? = some u → w.cell? ((⟨g, 0, none⟩ : Addr).add j) = some u := hown.1.cells (g := g) rfl
    have hf := run_firstCells_some (P := P) w.drew i.size l.length ⟨g, 0, none⟩ l.length c (bys l) (by rw [hsize, bys_len, Nat.mul_one]) holds
    exact grown _ hf (by omega)
theorem wp_appZ {P : Program} {w : World} {o : Oper} {a : Act} {K : Act → World → Prop} {Q : Exit → Act → World → Prop} (s x : Operand) (t tn : TypeId) (kn : IntKind)
    (ho : o.op = .call { callee := .builtin .append, args := #[s, x], argTypes := #[t, tn] })
    (base : Nat) (e : TypeId) (i : TypeInfo) (ht : P.underlying t = some (.slice e)) (htn : P.underlying tn = some (.int kn)) (hi : P.info? e = some i) (hz : i.zero = some (.int .u8 0))
    (hsize : i.size = 1) (hby : i.bytes = 1)
    (A : Option Addr) (n c : Nat) (l : List Nat) (hs : a.eval s = .slice A n c) (hn : n = l.length) (hown : Own w base e A c l)
    (k : Nat) (hx : a.eval x = .int .i64 (k : Int)) (h0 : 0 < k)
    (hbytes : l.length + k ≤ 140737488355328) (hbase : base ≤ w.heap.size)
    (h : ∀ A2 c2 w', Own w' base e A2 c2 (l ++ List.replicate k 0) → w.grownBy w' (Value.slice A n c).ownBlock → K (a.put o.dst (.slice A2 (l ++ List.replicate k 0).length c2)) w') : o.wp P a w K Q := by
  obtain ⟨A2, c2, w', hrun, h2, h3⟩ := run_appZ (P := P) t tn o.type kn base e i ht htn hi hz hsize hby A n c l hn hown k h0 hbytes hbase
  unfold Oper.wp execOp
  simp only [ho, resolve, invoke, builtin, Sem.run_bind, Sem.run_pure, Result.andThen_ok, List.map_toArray, List.map_cons, List.map_nil, hs, hx, hrun]
  exact h A2 c2 w' h2 h3
/-- At the operation. -/
theorem wpList_appZ {P : Program} {w : World} {ops : Array Oper} {rest : List Oper} {o : Oper} {a : Act} {Q : Exit → Act → World → Prop} (hgd : o.guard = none) (s x : Operand) (t tn : TypeId) (kn : IntKind)
    (ho : o.op = .call { callee := .builtin .append, args := #[s, x], argTypes := #[t, tn] })
    (base : Nat) (e : TypeId) (i : TypeInfo) (ht : P.underlying t = some (.slice e)) (htn : P.underlying tn = some (.int kn)) (hi : P.info? e = some i) (hz : i.zero = some (.int .u8 0))
    (hsize : i.size = 1) (hby : i.bytes = 1)
    (A : Option Addr) (n c : Nat) (l : List Nat) (hs : a.eval s = .slice A n c) (hn : n = l.length) (hown : Own w base e A c l)
    (k : Nat) (hx : a.eval x = .int .i64 (k : Int)) (h0 : 0 < k)
    (hbytes : l.length + k ≤ 140737488355328) (hbase : base ≤ w.heap.size)
    (h : ∀ A2 c2 w', Own w' base e A2 c2 (l ++ List.replicate k 0) → w.grownBy w' (Value.slice A n c).ownBlock → wpList P ops Q rest (a.put o.dst (.slice A2 (l ++ List.replicate k 0).length c2)) w') : wpList P ops Q (o :: rest) a w :=
  wpList_plain hgd fun _ hK => wp_appZ s x t tn kn ho base e i ht htn hi hz hsize hby A n c l hs hn hown k hx h0 hbytes hbase fun A2 c2 w' h2 h3 => hK _ _ (h A2 c2 w' h2 h3)
end Gw
