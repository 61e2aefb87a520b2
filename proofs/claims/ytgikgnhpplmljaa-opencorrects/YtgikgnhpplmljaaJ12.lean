import Derived.RangeFuncOwn
import Derived.RangeFuncFrom
import Derived.RangeFuncKeeps
import Derived.RegionIn
import Derived.BigRegionIn
import Derived.Sort.QuietIn
import Derived.BigQuiet
import Derived.Test.YtgikgnhpplmljaaJ1
import Derived.Test.YtgikgnhpplmljaaJ2
import Derived.Test.YtgikgnhpplmljaaJ4
import Derived.Test.YtgikgnhpplmljaaJ7
import Derived.Test.YtgikgnhpplmljaaJ11
section
/- stripe: Columns, and the pieces of a document one by one. -/
namespace Sp
/-- As the program reckons it. -/
theorem cnt_div {n k : Nat} (hk : 0 < k) : cnt n k = if 0 < n % k then n / k + 1 else n / k := by
  have h := Nat.div_add_mod n k
  have hm := Nat.mod_lt n hk
  have hc : (n / k) * k + n % k = n := by rw [Nat.mul_comm]; exact h
  have h1 := cnt_lt (n := n) (k := k) (i := n / k) hk
  have h2 := cnt_lt (n := n) (k := k) (i := n / k + 1) hk
  rw [Nat.succ_mul] at h2
  by_cases h0 : 0 < n % k
  · rw [if_pos h0]; omega
  · rw [if_neg h0]
    have h3 : n / k ≠ 0 → n / k - 1 < cnt n k := fun hq => by
      refine (cnt_lt hk).2 ?_
      obtain ⟨q, hq'⟩ : ∃ q, n / k = q + 1 := ⟨n / k - 1, by omega⟩
      rw [hq', Nat.add_sub_cancel]
      rw [hq', Nat.succ_mul] at hc
      omega
    omega
theorem colsZ_no {s k : Int} (h : s < 0 ∨ k < 1) : colsZ s k = 0 := by
  unfold colsZ; rw [if_pos (by omega)]
end Sp
namespace Go.Proofs.Ytgikgnhpplmljaa
open Go.RowKit Go.Shelf Gw Pol
attribute [local go_sem] Oper.semAt_some

/-- Columns: the world stands. -/
theorem scols_same (s k : Int) (hs : (Lit.int .i64 s).wf = true) (hk : (Lit.int .i64 k).wf = true) (w : World) :
    Calls Try.prog 36 #[.int .i64 s, .int .i64 k] w fun e w' => e = .returned (.int .i64 (Sp.colsZ s k)) ∧ w' = w := by
  have hs' : s ≤ 9223372036854775807 := by
    have h2 : IntKind.i64.min ≤ s ∧ s ≤ 9223372036854775807 := by simpa [Lit.wf] using hs
    exact h2.2
  have hk' : k ≤ 9223372036854775807 := by
    have h2 : IntKind.i64.min ≤ k ∧ k ≤ 9223372036854775807 := by simpa [Lit.wf] using hk
    exact h2.2
  by_cases h : s < 0 ∨ k < 1
  · have HZ := Lib.hid (Sp.colsZ_no h)
    go_enter Try.func36, Try.ntmps36
    rcases h with h | h
    · go_wp2
      go_ret
      exact ⟨by rw [HZ.out]; rfl, rfl⟩
    · go_wp2
      all_goals (go_ret; exact ⟨by rw [HZ.out]; rfl, rfl⟩)
  · obtain ⟨n, rfl⟩ : ∃ n : Nat, s = (n : Int) := ⟨s.toNat, by omega⟩
    obtain ⟨m, rfl⟩ : ∃ m : Nat, k = (m : Int) := ⟨k.toNat, by omega⟩
    have hm : 0 < m := by omega
    have HZ := Lib.hid ((Sp.colsZ_nat n m).trans (congrArg (fun x : Nat => (x : Int)) (Sp.cnt_div hm)))
    have hq : (n : Int) / (m : Int) = ((n / m : Nat) : Int) := rfl
    have hr : (n : Int) % (m : Int) = ((n % m : Nat) : Int) := rfl
    have hqn : n / m ≤ n := Nat.div_le_self n m
    have hrn : n % m < m := Nat.mod_lt n hm
    by_cases h0 : 0 < n % m
    · rw [if_pos h0] at HZ
      have hqm : n / m + 1 ≤ n := by
        have h1 := Nat.div_add_mod n m
        have h2 : n / m ≤ m * (n / m) := Nat.le_mul_of_pos_left _ hm
        omega
      obtain ⟨q, hqe⟩ : ∃ q, q = n / m := ⟨_, rfl⟩
      obtain ⟨r, hre⟩ : ∃ r, r = n % m := ⟨_, rfl⟩
      rw [← hqe] at hq hqm HZ
      rw [← hre] at hr hrn h0
      clear hqe hre hqn
      go_enter Try.func36, Try.ntmps36
      go_wp2
      go_ret
      refine ⟨?_, rfl⟩
      rw [HZ.out]
      go_num
    · rw [if_neg h0] at HZ
      obtain ⟨q, hqe⟩ : ∃ q, q = n / m := ⟨_, rfl⟩
      obtain ⟨r, hre⟩ : ∃ r, r = n % m := ⟨_, rfl⟩
      rw [← hqe] at hq hqn HZ
      rw [← hre] at hr hrn h0
      clear hqe hre
      obtain rfl : r = 0 := by omega
      go_enter Try.func36, Try.ntmps36
      go_wp2
      go_ret
      refine ⟨?_, rfl⟩
      rw [HZ.out]
      go_num
theorem scols_any (s k : Int) (hs : (Lit.int .i64 s).wf = true) (hk : (Lit.int .i64 k).wf = true) (w : World) : Calls Try.prog 36 #[.int .i64 s, .int .i64 k] w fun e w' => e = .returned (.int .i64 (Sp.colsZ s k)) ∧ Below w.heap.size w w' :=
  (scols_same s k hs hk w).mono fun e w' h => ⟨h.1, by rw [h.2]; exact Below.refl _ _⟩
theorem wf_nat {n : Nat} (h : n ≤ 9223372036854775807) : (Lit.int .i64 (n : Int)).wf = true := by
  have h1 : IntKind.i64.min ≤ (n : Int) := by have : IntKind.i64.min = -9223372036854775808 := by decide
                                              omega
  simp [Lit.wf]
  exact ⟨h1, by omega⟩
theorem scols_nat (n k : Nat) (hn : n ≤ 9223372036854775807) (hk : k ≤ 9223372036854775807) (w : World) : Calls Try.prog 36 #[.int .i64 (n : Int), .int .i64 (k : Int)] w fun e w' => e = .returned (.int .i64 (Sp.cnt n k : Int)) ∧ w' = w :=
  (scols_same n k (wf_nat hn) (wf_nat hk) w).mono fun e w' h => ⟨by rw [← Sp.colsZ_nat]; exact h.1, h.2⟩

/-- Two blocks stand. -/
def KpT (b1 b2 : Nat) (W W' : World) : Prop := ∀ b, b = b1 ∨ b = b2 → W'.heap[b]? = W.heap[b]?
theorem KpT.refl (b1 b2 : Nat) (W : World) : KpT b1 b2 W W := fun _ _ => rfl
theorem KpT.trans {b1 b2 : Nat} {A B C : World} (h : KpT b1 b2 A B) (k : KpT b1 b2 B C) : KpT b1 b2 A C := fun b h1 => (k b h1).trans (h b h1)
theorem KpT.below {b1 b2 n : Nat} {A B : World} (h : Below n A B) (h1 : b1 < n) (h2 : b2 < n) : KpT b1 b2 A B := fun b h3 => h.block b (by omega)
theorem KpT.one {b1 b2 o : Nat} {A B : World} (h : KpT b1 b2 A B) : B.cell? ⟨b1, o, none⟩ = A.cell? ⟨b1, o, none⟩ := World.cell?_of_block (h b1 (.inl rfl))
theorem KpT.two {b1 b2 o : Nat} {A B : World} (h : KpT b1 b2 A B) : B.cell? ⟨b2, o, none⟩ = A.cell? ⟨b2, o, none⟩ := World.cell?_of_block (h b2 (.inr rfl))

theorem spieces_mk (A : Option Addr) (n c k : Nat) (w : World) :
    Calls Try.prog 61 #[.slice A n c, .int .i64 (k : Int)] w fun e w' =>
      e = .returned (.func (.func 87) #[] #[.pointer (some ⟨w.heap.size, 0, none⟩), .pointer (some ⟨w.heap.size + 1, 0, none⟩)]) ∧
      w' = (w.alloc (.cells #[.slice A n c] 36)).alloc (.cells #[.int .i64 (k : Int)] 3) := by
  go_enter Try.func61, Try.ntmps61
  go_wp2
  go_ret
  exact ⟨rfl, rfl⟩

/-- Piece i of k bytes of n, that lie at b, off. -/
abbrev sencs (b off n c k : Nat) (i : Nat) : Array Value := #[.int .i64 (i : Int), .slice (some ⟨b, off + i * k, none⟩) (min k (n - i * k)) (c - i * k)]
def SpRel (J : List Nat → World → Prop) (w : World) (bd bk b off n c k : Nat) (v i : Value) (wr : World) : Prop :=
  ∃ q : Nat, q ≤ Sp.cnt n k ∧ i = .int .i64 (q : Int) ∧ (q < Sp.cnt n k → v = .slice (some ⟨b, off + q * k, none⟩) (n - q * k) (c - q * k)) ∧ J (List.range q) wr ∧ KpT bd bk w wr
set_option maxRecDepth 100000 in
set_option maxHeartbeats 1000000 in
/-- The pieces come one by one. -/
theorem spieces_pre (m : Nat) (hm : 1 ≤ m) (bd bk b off n c k : Nat) (A : Option Addr) (hA : 0 < n → A = some ⟨b, off, none⟩) (hk : 0 < k) (hk2 : k ≤ 9223372036854775807) (hn : n ≤ 140737488355328) (hc : n ≤ c) (w : World)
    (h1 : w.cell? ⟨bd, 0, none⟩ = some (.slice A n c)) (h2 : w.cell? ⟨bk, 0, none⟩ = some (.int .i64 (k : Int))) :
    Gq.SeqPre m Try.prog 87 #[.pointer (some ⟨bd, 0, none⟩), .pointer (some ⟨bk, 0, none⟩)] (sencs b off n c k) (fun pre x _ => pre = List.range x ∧ x < Sp.cnt n k) (KpT bd bk) (fun xs => xs = List.range (Sp.cnt n k)) w := fun l J W hW hJ hY h0 => by
  have q0 : KpT bd bk w W := KpT.below hW (cell_lt h1) (cell_lt h2)
  have c1 := q0.one.trans h1
  have c2 := q0.two.trans h2
  have hcn := Sp.cnt_le n k
  have HC := Lib.hid (scols_nat n k (by omega) hk2 W)
  obtain ⟨R, hR⟩ : ∃ R, R = Sp.cnt n k := ⟨_, rfl⟩
  rw [← hR] at HC hcn
  have HR := Lib.hid hR
  clear hR
  refine callsIn_of_wp Try.func87 rfl trivial ?_ rfl
  simp only [Try.ntmps87, List.size_toArray, List.length_cons, List.length_nil, Nat.reduceAdd, Nat.reduceSub, Array.replicate_succ, Array.replicate_zero, List.push_toArray, List.append_toArray, List.nil_append, List.cons_append]
  gi_wp2_with fail
  refine ⟨trivial, ?_⟩
  refine (callsIn_wide.2 HC.out).mono ?_
  rintro e _ ⟨rfl, rfl⟩
  gi_wp2
  gi_loopw [4, 12] (SpRel J w bd bk b off n c k) (fun _ i _ => R - (intOf i).toNat)
  case atStart => exact ⟨0, Nat.zero_le _, rfl, fun h => by rw [hA ((Sp.cnt_lt hk).1 h |> fun h => by omega)]; simp, h0, q0⟩
  case round =>
    obtain ⟨q, hq, rfl, hv, hJs, hK⟩ := hrel
    rw [← HR.out] at hq hv
    by_cases hlt : q < R
    · have hv' := hv hlt
      subst hv'
      have hqn := (Sp.cnt_lt (n := n) hk).1 (by rw [← HR.out]; exact hlt)
      have HN := Lib.hid (Sp.cnt_lt (n := n) (i := q + 1) hk)
      rw [← HR.out, Nat.succ_mul] at HN
      have d2 := hK.two.trans h2
      obtain ⟨fn, tmps, assign, body, hy, hRd⟩ := hY (List.range q) q wr hJs ⟨rfl, by rw [← HR.out]; exact hlt⟩
      dsimp only [sencs] at hy
      obtain ⟨s, hs⟩ : ∃ s, s = q * k := ⟨_, rfl⟩
      obtain ⟨len, hlen⟩ : ∃ t, t = n - q * k := ⟨_, rfl⟩
      obtain ⟨cap, hcap⟩ : ∃ t, t = c - q * k := ⟨_, rfl⟩
      obtain ⟨o, ho⟩ : ∃ t, t = off + q * k := ⟨_, rfl⟩
      obtain ⟨p, hp⟩ : ∃ t, t = min k len := ⟨_, rfl⟩
      rw [← hlen, ← hcap, ← ho, ← hp] at hy
      rw [← hlen, ← hcap, ← ho]
      rw [← hs] at hqn hlen hcap ho HN
      obtain ⟨vr, hsl, hvr⟩ : ∃ vr, (∀ w', (Instr.sliceAt 36 (.slice (some ⟨b, o, none⟩) len cap) (some (.int .i64 (p : Int))) none none).run Try.prog w' = .ok vr w') ∧ (p < cap → vr = .slice (some ⟨b, o + p, none⟩) (len - p) (cap - p)) := by
        refine ⟨sliced (some ⟨b, o, none⟩) p len cap 1, fun w' => ?_, fun h => ?_⟩
        · rw [run_sliceAt_slice w' _ _ _ _ _ slice_elem, run_slice_l w' _ _ len cap slice_elem .i64 (p : Int) (by omega) (by omega), slice_one, Result.andThen_ok, Int.toNat_natCast]
        · unfold sliced
          rw [if_neg (by omega), Option.map_some, Nat.mul_one, addr_add]
      have HV := Lib.hid (show q + 1 < R → vr = .slice (some ⟨b, off + (q + 1) * k, none⟩) (n - (q + 1) * k) (c - (q + 1) * k) from fun h => by
        have h3 := HN.out.1 h
        have e1 : o + p = off + (s + k) := by omega
        have e2 : len - p = n - (s + k) := by omega
        have e3 : cap - p = c - (s + k) := by omega
        rw [hvr (by omega), Nat.succ_mul, ← hs, e1, e2, e3])
      have hcase : (p = k ∧ k ≤ len ∧ p ≤ cap) ∨ (p = len ∧ len < k ∧ p ≤ cap) := by omega
      clear hvr hp hs hlen hcap ho hqn
      rcases hcase with ⟨rfl, hkl, hpc⟩ | ⟨rfl, hkl, hpc⟩
      · gi_wp2_with fail
        refine hRd.mono ?_
        rintro e W3 ⟨rfl, hJ3, hK3⟩
        gi_wp2
        go_roundw
        case rel => exact ⟨q + 1, by rw [← HR.out]; omega, by go_num, fun h => HV.out (by rw [HR.out]; exact h), by rw [List.range_succ]; exact hJ3, hK.trans hK3⟩
        case measure => simp [intOf]; omega
      · gi_wp2_with fail
        refine hRd.mono ?_
        rintro e W3 ⟨rfl, hJ3, hK3⟩
        gi_wp2
        go_roundw
        case rel => exact ⟨q + 1, by rw [← HR.out]; omega, by go_num, fun h => HV.out (by rw [HR.out]; exact h), by rw [List.range_succ]; exact hJ3, hK.trans hK3⟩
        case measure => simp [intOf]; omega
    · obtain rfl : q = R := by omega
      gi_wp2
      go_end0
      exact ⟨⟨_, rfl⟩, _, by rw [HR.out], hJs⟩
end Go.Proofs.Ytgikgnhpplmljaa
end
section
/- 'copy' into a row of the call's own, from any place on; what a round of a range leaves as it was. -/
namespace Gw
open Go Go.RowKit Go.Shelf Pol
theorem run_copy_into {P : Program} {w : World} (t ty e : TypeId) (hu : P.underlying t = some (.slice e)) (hs : (P.info? e).map (·.size) = some 1) {base g n : Nat} {l : List Nat} (hown : Own w base e (some ⟨g, 0, none⟩) n l)
    (o dl dc : Nat) (hod : o + dl ≤ l.length) {A : Option Addr} {B : Nat} {p : List Nat} (m c : Nat) (hp : Sl w B A p) (hm : m = p.length) :
    ∃ w2, (Builtin.copy_ #[t, t] ty #[.slice (some ⟨g, o, none⟩) dl dc, .slice A m c]).run P w = .ok (.int .i64 (min m dl : Nat)) w2 ∧
      Own w2 base e (some ⟨g, 0, none⟩) n (l.take o ++ (p.take dl ++ l.drop (o + min m dl))) ∧ w.grownBy w2 (some g) := by
  subst hm
  have hpl : (p.take dl).length = min p.length dl := by rw [List.length_take]; omega
  have hpb : BB (p.take dl) := fun x hx => hp.bb x (List.mem_of_mem_take hx)
  by_cases h0 : min p.length dl = 0
  · have hr := run_copy_none (P := P) w t t ty e (some ⟨g, o, none⟩) A dl dc p.length c hu hs h0
    refine ⟨w, hr.trans (by rw [h0]; rfl), ?_, World.grownBy.refl w _⟩
    rw [h0] at hpl ⊢
    rw [List.eq_nil_of_length_eq_zero hpl, List.nil_append, Nat.add_zero, List.take_append_drop]
    exact hown
  · obtain ⟨x, b, off, hx, _, rfl, _, _⟩ := hp.at_ (k := 0) (by omega)
    rcases hown.1.2 with ⟨hv, _⟩ | ⟨g', cap, cur, hv, hb, hg, h1, h2, h3, h4⟩
    · injection hv with h; cases h
    injection hv with e1 _ e3
    injection e1 with e1
    injection e1 with e1
    subst e1 e3
    rw [Nat.mul_one] at h3 h4
    have hr := run_copy_row (P := P) w t t ty e g o dl dc ⟨b, off, none⟩ p.length c cur e (bys (p.take dl)) hu hs hg (by rw [bys_len, hpl]) (fun j v hj => by
      obtain ⟨y, hy, rfl⟩ := bys_get hj
      have hy' : p[j]? = some y := by
        have hjl := (List.getElem?_eq_some_iff.1 hy).1
        rw [List.getElem?_take, if_pos (by omega)] at hy
        exact hy
      obtain ⟨_, b', off', e', hb', hc'⟩ := hp j y hy'
      injection e' with e'
      injection e' with e1 e2
      subst e1 e2
      rw [addr_add]
      exact hc') (by rw [bys_len, hpl, h3]; omega) (bys_one _)
    rw [bys_len, hpl] at hr
    refine ⟨w.setRow g (cur.toList.take o ++ bys (p.take dl) ++ cur.toList.drop (o + min p.length dl)).toArray, hr, ?_, ⟨rfl, rfl, rfl, by simp [World.setRow], fun k _ hk => setRow_other w g k _ (fun e => hk (by rw [e]))⟩⟩
    have hcur : cur.toList = bys l ++ cur.toList.drop l.length := by rw [← h4, List.take_append_drop]
    have hbl := bys_len l
    have hnew : (cur.toList.take o ++ bys (p.take dl) ++ cur.toList.drop (o + min p.length dl)) = bys (l.take o ++ (p.take dl ++ l.drop (o + min p.length dl))) ++ cur.toList.drop l.length := by
      have t1 : cur.toList.take o = bys (l.take o) := by
        rw [hcur, List.take_append_of_le_length (by omega)]
        unfold bys; rw [List.map_take]
      have t2 : cur.toList.drop (o + min p.length dl) = bys (l.drop (o + min p.length dl)) ++ cur.toList.drop l.length := by
        conv => lhs; rw [hcur]
        rw [List.drop_append_of_le_length (by omega)]
        unfold bys; rw [List.map_drop]
      rw [t1, t2, bys_app, bys_app, List.append_assoc, List.append_assoc, List.append_assoc]
    have hlen : (l.take o ++ (p.take dl ++ l.drop (o + min p.length dl))).length = l.length := by
      simp only [List.length_append, List.length_take, List.length_drop]; omega
    refine ⟨⟨by rw [bys_len, Nat.mul_one], .inr ⟨g, n, _, by rw [hlen], hb, setRow_heap _ _ _ _ _ _ hg, by omega, h2, ?_, ?_⟩⟩, ?_⟩
    · have h5 := congrArg List.length hcur
      have h6 := congrArg List.length hnew
      simp only [List.length_append, bys_len, hlen] at h5 h6
      simp only [List.size_toArray, List.length_append, bys_len]
      simp only [Array.length_toList] at h5
      omega
    · rw [Nat.mul_one, hlen]
      show List.take l.length (_ ++ _ ++ _) = _
      rw [hnew]
      exact List.take_left' (by rw [bys_len, hlen])
    · exact BB.append (fun x hx => hown.2 x (List.mem_of_mem_take hx)) (BB.append hpb (fun x hx => hown.2 x (List.mem_of_mem_drop hx)))
/-- A row of one's own where what is turned is no cells. -/
theorem Own.turned {base c : Nat} {A B : World} {row : Option Nat} {e : TypeId} {ad : Option Addr} {l : List Nat} (hs : Own A base e ad c l) (hg : A.grownBy B row) (hr : ∀ r, row = some r → ∃ o : Obj, A.heap[r]? = some o ∧ o.isCells = false) : Own B base e ad c l := by
  refine ⟨⟨hs.1.1, ?_⟩, hs.2⟩
  rcases hs.1.2 with h0 | ⟨k, cap, cur, hv, h1, h2, h3⟩
  · exact .inl h0
  · refine .inr ⟨k, cap, cur, hv, h1, ?_, h3⟩
    refine (hg.block k (Array.getElem?_eq_some_iff.1 h2).1 (fun e => ?_)).trans h2
    obtain ⟨o, h4, h5⟩ := hr k e.symm
    rw [h2] at h4
    injection h4 with h4
    subst h4
    cases h5
theorem Row.turned {A B : World} {b n : Nat} {f : Nat → Value} {row : Option Nat} (hs : Row A b n f) (hg : A.grownBy B row) (hr : ∀ r, row = some r → ∃ o : Obj, A.heap[r]? = some o ∧ o.isCells = false) : Row B b n f := fun o ho =>
  ⟨cell_kept (hs o ho).1 hg hr, (frozen_kept (hs o ho).1 hg hr).trans (hs o ho).2⟩
theorem others_below {W X : World} (h : Below W.heap.size W X) : KeepsOthers W X := ⟨h.size, fun k _ hk _ => (h.block k (Array.getElem?_eq_some_iff.1 hk).1).trans hk⟩
theorem others_cells {X W' : World} {g : Nat} (ho : ∀ o, X.heap[g]? = some o → o.isCells = true) (h : X.grownBy W' (some g)) : KeepsOthers X W' := ⟨h.size, fun k o hk hc => by
  refine (h.block k (Array.getElem?_eq_some_iff.1 hk).1 (fun e => ?_)).trans hk
  injection e with e
  subst e
  have := ho o hk
  rw [this] at hc; cases hc⟩
theorem Own.cellsAt {w : World} {base g o c : Nat} {e : TypeId} {l : List Nat} (h : Own w base e (some ⟨g, o, none⟩) c l) : ∀ ob, w.heap[g]? = some ob → ob.isCells = true := fun ob hob => by
  rcases h.1.2 with ⟨hv, _⟩ | ⟨g', cap, cur, hv, _, hg, _⟩
  · injection hv with h; cases h
  · injection hv with e1
    injection e1 with e1
    injection e1 with e1
    subst e1
    rw [hob] at hg
    injection hg with hg
    rw [hg]; rfl
end Gw
end
section
/- Columns in numbers: a column is a piece of the document and noughts; a document put together piece by piece. -/
namespace Sp
open Pol
/-- A column: what is left of the document, at most k bytes of it, and noughts. -/
theorem col_piece (d : List Nat) (k i m : Nat) (hm : m = min k (d.length - i * k)) : col d k i = (d.drop (i * k)).take m ++ List.replicate (k - m) 0 := by
  have hl : ((d.drop (i * k)).take m).length = m := by rw [List.length_take, List.length_drop]; omega
  apply List.ext_getElem
  · rw [col_len, List.length_append, hl, List.length_replicate]; omega
  · intro j h1 h2
    have hj : j < k := by rw [col_len] at h1; exact h1
    simp only [col, List.getElem_map, List.getElem_range]
    by_cases hjm : j < m
    · rw [List.getElem_append_left (by omega), List.getElem_take, List.getElem_drop, co_get (by omega)]
    · rw [List.getElem_append_right (by omega), List.getElem_replicate, co_far (by omega)]
/-- A document of s bytes that q columns have been laid into. -/
def part (l : Nat → List Nat) (s k q : Nat) : List Nat := (cat l q).take s ++ List.replicate (s - q * k) 0
theorem part_zero (l : Nat → List Nat) (s k : Nat) : part l s k 0 = List.replicate s 0 := by simp [part, cat]
theorem part_len {l : Nat → List Nat} {s k q : Nat} (h : ∀ i, i < q → (l i).length = k) : (part l s k q).length = s := by
  rw [part, List.length_append, List.length_take, cat_len h, List.length_replicate]; omega
theorem part_done {l : Nat → List Nat} {s k q : Nat} (h : s ≤ q * k) : part l s k q = (cat l q).take s := by
  rw [part, show s - q * k = 0 by omega]; simp
theorem part_step {l : Nat → List Nat} {s k q m : Nat} (h : ∀ i, i < q + 1 → (l i).length = k) (hq : q * k < s) (hm : m = min k (s - q * k)) :
    (part l s k q).take (q * k) ++ ((l q).take m ++ (part l s k q).drop (q * k + m)) = part l s k (q + 1) := by
  have hc := cat_len (l := l) (k := k) (R := q) (fun i hi => h i (by omega))
  have hk := h q (by omega)
  have e1 : part l s k q = cat l q ++ List.replicate (s - q * k) 0 := by
    rw [part, List.take_of_length_le (by omega)]
  have e2 : (part l s k q).take (q * k) = cat l q := by
    rw [e1, ← hc, List.take_left']
    rfl
  have e3 : (part l s k q).drop (q * k + m) = List.replicate (s - q * k - m) 0 := by
    rw [e1, ← hc, List.drop_append, List.drop_replicate, List.drop_of_length_le (by omega), List.nil_append]
    congr 1; omega
  have t1 : (cat l q).take s = cat l q := List.take_of_length_le (by omega)
  have t2 : (l q).take m = (l q).take (s - q * k) := by
    by_cases hks : k ≤ s - q * k
    · rw [List.take_of_length_le (i := m) (by omega), List.take_of_length_le (i := s - q * k) (by omega)]
    · rw [show m = s - q * k by omega]
  have t3 : s - q * k - m = s - (q * k + k) := by omega
  rw [e2, e3, part, cat, List.take_append, t1, hc, List.append_assoc, Nat.succ_mul, t2, t3]
end Sp
end
section
/- stripe: boxes and rows laid one behind the other. -/
namespace Go.Proofs.Ytgikgnhpplmljaa
open Go.RowKit Go.Shelf Gw Pol
attribute [local go_sem] Oper.semAt_some

theorem ocell {w : World} {b o : Nat} {v : Value} (h : w.cell? ⟨b, o, none⟩ = some v) (ob : Obj) : (w.alloc ob).cell? ⟨b, o, none⟩ = some v := (World.cell?_alloc_lt w ob ⟨b, o, none⟩ (cell_lt h)).trans h
theorem ncell (w : World) (v : Value) (t : TypeId) (b : Nat) (h : b = w.heap.size) : (w.alloc (.cells #[v] t)).cell? ⟨b, 0, none⟩ = some v := by
  subst h; exact World.cell?_alloc_new w #[v] t 0
theorem nrow (w : World) (z : Value) (t : TypeId) (n b : Nat) (h : b = w.heap.size) : Row (w.alloc (.cells (madeCells #[z] n) t)) b n (fun _ => z) := fun o ho => by
  subst h
  refine ⟨?_, World.frozen?_alloc_new w _ t o⟩
  rw [World.cell?_alloc_new w _ t o]
  simp [madeCells, ho, Nat.mod_one]
theorem orow {w : World} {b n : Nat} {f : Nat → Value} (h : Row w b n f) (hb : b < w.heap.size) (ob : Obj) : Row (w.alloc ob) b n f := h.below ((Below.refl _ _).alloc (Nat.le_refl _) ob) hb
end Go.Proofs.Ytgikgnhpplmljaa
end
section
/- stripe: Join. -/
namespace Go.Proofs.Ytgikgnhpplmljaa
open Go.RowKit Go.Shelf Gw Pol Go.BigFrame
attribute [local go_sem] Oper.semAt_some
theorem wide_fn (f : FuncId) : Fence.wide.fn f = True := rfl
attribute [local go_sem] wide_fn

/-- Has each column k bytes? -/
def allK (l : Nat → List Nat) (R : Nat) (k : Int) : Bool := decide (∀ i, i < R → ((l i).length : Int) = k)
theorem sall_any (A : Option Addr) (c R B : Nat) (k : Int) (P : Nat → Option Addr) (C : Nat → Nat) (l : Nat → List Nat) (w : World) (h : MIn w B A c R P C l) (hR : R ≤ 9223372036854775807) :
    Calls Try.prog 60 #[.slice A R c, .int .i64 k] w fun e w' => e = .returned (.bool (allK l R k)) ∧ w' = w := by
  go_enter Try.func60, Try.ntmps60
  go_wp2
  go_loop [9] (fun i => ∃ q : Nat, q ≤ R ∧ i = .int .i64 (q : Int) ∧ ∀ j, j < q → ((l j).length : Int) = k) (fun i => R - (intOf i).toNat)
  case atStart => exact ⟨0, Nat.zero_le _, rfl, fun j hj => by omega⟩
  case round =>
    obtain ⟨q, hq, rfl, hall⟩ := hrel
    by_cases hlt : q < R
    · obtain ⟨b, off, rfl, _, hc, _⟩ := h.rd q hlt
      by_cases he : ((l q).length : Int) = k
      · have HA := Lib.hid (show ∀ j, j < q + 1 → ((l j).length : Int) = k from fun j hj => by
          by_cases e : j = q
          · subst e; exact he
          · exact hall j (by omega))
        clear hall
        have hb : (((l q).length : Int) == k) = true := by rw [beq_iff_eq]; exact he
        obtain ⟨m, hm⟩ : ∃ m, m = (l q).length := ⟨_, rfl⟩
        rw [← hm] at hc he hb
        clear hm
        subst he
        go_wp2
        go_round
        case rel => exact ⟨q + 1, by omega, by go_num, HA.out⟩
        case measure => simp [intOf]; omega
      · have HF := Lib.hid (show allK l R k = false from decide_eq_false fun h => he (h q hlt))
        have hb : (((l q).length : Int) == k) = false := by rw [beq_eq_false_iff_ne]; exact he
        clear hall
        go_wp2
        go_ret
        exact ⟨by rw [HF.out]; rfl, rfl⟩
    · obtain rfl : q = R := by omega
      have HT := Lib.hid (show allK l q k = true from decide_eq_true hall)
      go_wp2
      go_ret
      exact ⟨by rw [HT.out]; rfl, rfl⟩
theorem sjoin_no (A : Option Addr) (c R : Nat) (s k : Int) (P : Nat → Option Addr) (C : Nat → Nat) (l : Nat → List Nat) (w : World) (h : MIn w w.heap.size A c R P C l) (hs : (Lit.int .i64 s).wf = true) (hk : (Lit.int .i64 k).wf = true) (hT : tot l R + R ≤ 1048576) (hno : s < 0 ∨ k < 1 ∨ (R : Int) ≠ Sp.colsZ s k ∨ ∃ i, i < R ∧ ((l i).length : Int) ≠ k) : Calls Try.prog 39 #[.slice A R c, .int .i64 s, .int .i64 k] w fun e w' => ∃ A2 c2, e = .returned (.tuple #[.slice A2 0 c2, .bool false]) ∧ Below w.heap.size w w' := by
  have hbel : ∀ n, Below w.heap.size w ((w.alloc (.cells #[.slice A R c] 25)).drewN n) := fun n => Gw.Below.drewN ((Below.refl _ _).alloc (Nat.le_refl _) _) n
  have HC : ∀ W, Calls Try.prog 36 #[.int .i64 s, .int .i64 k] W fun e w' => e = .returned (.int .i64 (Sp.colsZ s k)) ∧ w' = W := scols_same s k hs hk
  have HL : ∀ n, Calls Try.prog 60 #[.slice A R c, .int .i64 k] ((w.alloc (.cells #[.slice A R c] 25)).drewN n) fun e w' => e = .returned (.bool (allK l R k)) ∧ w' = ((w.alloc (.cells #[.slice A R c] 25)).drewN n) := fun n => sall_any A c R w.heap.size k P C l _ (h.below (hbel n)) (by omega)
  by_cases h1 : s < 0
  · have d1 : decide (s < 0) = true := decide_eq_true h1
    clear hno HC HL
    go_enter Try.func39, Try.ntmps39
    go_wp2
    go_quiet (fail)
    go_wp2
    go_ret2
    exact ⟨_, _, rfl, hbel _⟩
  have d1 : decide (s < 0) = false := decide_eq_false h1
  by_cases h2 : k < 1
  · have d2 : decide (k < 1) = true := decide_eq_true h2
    clear hno HC HL
    go_enter Try.func39, Try.ntmps39
    go_wp2
    go_quiet (fail)
    go_wp2
    go_ret2
    exact ⟨_, _, rfl, hbel _⟩
  have d2 : decide (k < 1) = false := decide_eq_false h2
  obtain ⟨z, hz⟩ : ∃ z, z = Sp.colsZ s k := ⟨_, rfl⟩
  rw [← hz] at HC hno
  clear hz
  by_cases h3 : (R : Int) ≠ z
  · have d3 : ((R : Int) == z) = false := beq_eq_false_iff_ne.2 h3
    clear hno HL
    go_enter Try.func39, Try.ntmps39
    go_wp2
    go_quiet ((go_at_call 36; exact Calls.quiet_of_same (HC _)))
    go_wp2
    go_ret2
    exact ⟨_, _, rfl, hbel _⟩
  · have d3 : (R : Int) = z := by omega
    subst d3
    have hF : allK l R k = false := decide_eq_false fun h => by
      rcases hno with h4 | h4 | h4 | ⟨i, hi, h4⟩
      · exact h1 h4
      · exact h2 h4
      · exact h4 rfl
      · exact h4 (h i hi)
    rw [hF] at HL
    clear hno
    go_enter Try.func39, Try.ntmps39
    go_wp2
    go_quiet ((first | (go_at_call 36; exact Calls.quiet_of_same (HC _)) | (go_at_call 60; exact Calls.quiet_of_same (HL _))))
    go_wp2
    go_ret2
    exact ⟨_, _, rfl, hbel _⟩

/-- Join's boxes ahead of the range. -/
structure Jbx (w : World) (sz k : Nat) (vc : Value) (W : World) : Prop where
  own : Gw.Own W (w.heap.size + 1) 5 (some ⟨w.heap.size + 1, 0, none⟩) sz (List.replicate sz 0)
  c0 : W.cell? ⟨w.heap.size, 0, none⟩ = some vc
  c2 : W.cell? ⟨w.heap.size + 2, 0, none⟩ = some (.slice (some ⟨w.heap.size + 1, 0, none⟩) sz sz)
  c3 : W.cell? ⟨w.heap.size + 3, 0, none⟩ = some (.int .i64 (k : Int))
  sz' : W.heap.size = w.heap.size + 4
  bl : Below w.heap.size w W
theorem jbx (w : World) (sz k n : Nat) (hsz : sz ≤ 140737488355328) (vc : Value) (t0 t2 t3 : TypeId) :
    Jbx w sz k vc (((((w.alloc (.cells #[vc] t0)).drewN n).alloc (.cells (madeCells #[.int .u8 0] sz) 5)).alloc (.cells #[.slice (some ⟨w.heap.size + 1, 0, none⟩) sz sz] t2)).alloc (.cells #[.int .i64 (k : Int)] t3)) := by
  have hs : ((w.alloc (.cells #[vc] t0)).drewN n).heap.size = w.heap.size + 1 := by simp [World.drewN]
  refine ⟨?_, ?_, ?_, ?_, by simp [World.drewN], ?_⟩
  · have h := Own.made ((w.alloc (.cells #[vc] t0)).drewN n) 5 sz hsz
    rw [hs] at h
    exact (h.alloc _).alloc _
  · exact ocell (ocell (ocell (w := (w.alloc (.cells #[vc] t0)).drewN n) (ncell w vc t0 _ rfl) _) _) _
  · exact ocell (ncell _ _ _ _ (by simp [World.drewN])) _
  · exact ncell _ _ _ _ (by simp [World.drewN])
  · exact (((Gw.Below.drewN ((Below.refl _ w).alloc (Nat.le_refl _) _) n).alloc (by omega) _).alloc (by simp [World.drewN]; omega) _).alloc (by simp [World.drewN]; omega) _
def JnI (w : World) (vc : Value) (l : Nat → List Nat) (sz k : Nat) (pre : List Nat) (W : World) : Prop :=
  (W.cell? ⟨w.heap.size, 0, none⟩ = some vc ∧ Gw.Own W (w.heap.size + 1) 5 (some ⟨w.heap.size + 1, 0, none⟩) sz (Sp.part l sz k pre.length)) ∧ Below w.heap.size w W ∧ w.heap.size + 4 ≤ W.heap.size
theorem JnI.own (w : World) (vc : Value) (l : Nat → List Nat) (sz k : Nat) (B : Nat) (hB : w.heap.size ≤ B) : OwnFrom B (JnI w vc l sz k) := by
  rintro pre A C row ⟨⟨h1, h2⟩, h5, h6⟩ hg hr
  have hr' : ∀ r, row = some r → ∃ o : Obj, A.heap[r]? = some o ∧ o.isCells = false := fun r e => (hr r e).2
  exact ⟨⟨cell_kept h1 hg hr', h2.turned hg hr'⟩, ownFrom_below (β := Nat) (Nat.le_refl _) hB 0 A C row h5 hg hr, Nat.le_trans h6 hg.size⟩

set_option maxRecDepth 100000 in
set_option maxHeartbeats 500000 in
theorem sjoin_in (A : Option Addr) (c R k sz : Nat) (P : Nat → Option Addr) (C : Nat → Nat) (l : Nat → List Nat) (w : World) (h : MIn w w.heap.size A c R P C l) (hR : R = Sp.cnt sz k) (hk : 0 < k) (hk2 : k ≤ 9223372036854775807) (hl : ∀ i, i < R → (l i).length = k) (hT : R * k ≤ 2097152) :
    CallsIn Fence.wide 6 Try.prog 39 #[.slice A R c, .int .i64 (sz : Int), .int .i64 (k : Int)] w fun e w' => ∃ A2 c2, e = .returned (.tuple #[.slice A2 sz c2, .bool true]) ∧ In w' w'.heap.size A2 c2 ((Sp.cat l R).take sz) ∧ Below w.heap.size w w' := by
  have hall := Sp.cnt_all (n := sz) hk
  rw [← hR] at hall
  have hszb : sz ≤ 2097152 := by omega
  have hRb : R ≤ sz := by rw [hR]; exact Sp.cnt_le sz k
  have d1 : decide ((sz : Int) < 0) = false := decide_eq_false (by omega)
  have d2 : decide ((k : Int) < 1) = false := decide_eq_false (by omega)
  have hT' : allK l R (k : Int) = true := decide_eq_true fun i hi => by rw [hl i hi]
  have hbel : ∀ n, Below w.heap.size w ((w.alloc (.cells #[.slice A R c] 25)).drewN n) := fun n => Gw.Below.drewN ((Below.refl _ _).alloc (Nat.le_refl _) _) n
  have HC : ∀ W, CallsIn Fence.wide 5 Try.prog 36 #[.int .i64 (sz : Int), .int .i64 (k : Int)] W fun e w' => e = .returned (.int .i64 (R : Int)) ∧ w' = W := fun W => callsIn_wide.2 (by rw [hR]; exact scols_nat sz k (by omega) hk2 W)
  have HL : ∀ n, CallsIn Fence.wide 5 Try.prog 60 #[.slice A R c, .int .i64 (k : Int)] ((w.alloc (.cells #[.slice A R c] 25)).drewN n) fun e w' => e = .returned (.bool true) ∧ w' = ((w.alloc (.cells #[.slice A R c] 25)).drewN n) := fun n => callsIn_wide.2 (by
    rw [← hT']; exact sall_any A c R w.heap.size k P C l _ (h.below (hbel n)) (by omega))
  have HR := Lib.hid hR
  clear hR hT'
  have hmk := run_make_row' (P := Try.prog) 36 5 (.int .u8 0) 1 Try.underlying36 pbyte_info rfl .i64 .i64 sz (by omega) (by omega)
  refine callsIn_of_wp_marks Try.func39 rfl trivial ?_ rfl
  simp only [Try.ntmps39, List.size_toArray, List.length_cons, List.length_nil, Nat.reduceAdd, Nat.reduceSub, Array.replicate_succ, Array.replicate_zero, List.push_toArray, List.append_toArray, List.nil_append, List.cons_append]
  gi_wp2
  gi_quiet ((first | (gi_at_call 36; exact CallsIn.quiet_of_same (HC _)) | (gi_at_call 60; exact CallsIn.quiet_of_same (HL _))))
  gi_wp2_with fail
  refine (callsIn_wide.2 (spieces_mk _ sz sz k _)).mono ?_
  rintro e w' ⟨rfl, rfl⟩
  gi_wp2
  clear hmk HC HL
  have h5 := jbx w sz k nq (by omega) (.slice A R c) 25 36 3
  have hsz := h5.sz'
  refine Gq.range_pre (by omega) (gf := 87) (lb := #[.pointer (some ⟨w.heap.size + 2, 0, none⟩), .pointer (some ⟨w.heap.size + 3, 0, none⟩)]) rfl (enters_of Try.func87 (by kernel_rfl) rfl)
    (spieces_pre (6 - 1) (by omega) (w.heap.size + 2) (w.heap.size + 3) (w.heap.size + 1) 0 sz sz k _ (fun _ => rfl) hk (by omega) (by omega) (Nat.le_refl _) _ h5.c2 h5.c3)
    (fun h k => KpT.trans h k) (fun W l o o' hl _ _ b hb => World.putObj_heap_other (by omega)) (fun _ => rfl) (fun _ _ _ _ _ hs _ _ => hs)
    (JnI w (.slice A R c) l sz k) (JnI.own w (.slice A R c) l sz k _ (by omega))
    ⟨⟨h5.c0, by rw [List.length_nil, Sp.part_zero]; exact h5.own⟩, h5.bl, by omega⟩
    (fun i => { tmps := #[.slice A R c, .int .i64 (sz : Int), .int .i64 (k : Int), .pointer (some ⟨w.heap.size, 0, none⟩), undef, undef, .slice none 0 0, .bool false, .slice (some ⟨w.heap.size + 1, 0, none⟩) sz sz, .int .i64 (i : Int), .slice (some ⟨w.heap.size + 1, i * k, none⟩) (min k (sz - i * k)) (sz - i * k), .int .i64 (sz : Int), .bool false, .bool false, .int .i64 (k : Int), .bool false, .bool false, .bool false, .slice A R c, .int .i64 (R : Int), .int .i64 (sz : Int), .int .i64 (k : Int), .int .i64 (R : Int), .bool false, .bool false, .bool false, .slice A R c, .int .i64 (k : Int), .bool true, .bool false, .bool false, .int .i64 (sz : Int), .slice (some ⟨w.heap.size + 1, 0, none⟩) sz sz, .slice (some ⟨w.heap.size + 1, 0, none⟩) sz sz, .int .i64 (k : Int), .func (.func 87) #[] #[.pointer (some ⟨w.heap.size + 2, 0, none⟩), .pointer (some ⟨w.heap.size + 3, 0, none⟩)], .int .i64 (i : Int), .slice (some ⟨w.heap.size + 1, i * k, none⟩) (min k (sz - i * k)) (sz - i * k), undef, undef, undef, undef, undef, undef, undef], defers := [] }) ?assign ?body ?done
  case assign =>
    intro l x W K hK
    gi_wp2
    exact hK
  case body =>
    rintro lb pre q W ⟨⟨d0, hown⟩, hB, hWs⟩ ⟨rfl, hq⟩
    rw [List.length_range] at hown
    rw [← HR.out] at hq
    clear h5 hsz
    have hqk := (Sp.cnt_lt (n := sz) hk).1 (by rw [← HR.out]; exact hq)
    obtain ⟨b, off, hAe, hbl, hc, hIr⟩ := (h.below hB).rd q hq
    obtain ⟨m, hm⟩ : ∃ m, m = min k (sz - q * k) := ⟨_, rfl⟩
    have hpl := Sp.part_len (l := l) (s := sz) (k := k) (q := q) (fun i hi => hl i (by omega))
    obtain ⟨W3, hrun, hown3, hg3⟩ := run_copy_into (P := Try.prog) 36 3 5 Try.underlying36 (by kernel_rfl) hown (q * k) m (sz - q * k) (by rw [hpl]; omega) k (C q) hIr.sl (hl q hq).symm
    have hst := Sp.part_step (l := l) (s := sz) (k := k) (q := q) (m := m) (fun i hi => hl i (by omega)) hqk hm
    have hmk : min k m = m := by omega
    rw [hmk, hst] at hown3
    have HFIN := Lib.hid (show KeepsOthers W W3 ∧ KpT (w.heap.size + 2) (w.heap.size + 3) W W3 ∧ JnI w (.slice A R c) l sz k (List.range q ++ [q]) W3 from by
      refine ⟨others_cells hown.cellsAt hg3, fun j hj => hg3.block j (by omega) (fun e => by injection e with e; omega), ⟨⟨?_, ?_⟩, hB.trans (Gw.Below.by hg3 (by omega) (by omega)), by have := hg3.size; omega⟩⟩
      · exact (World.cell?_of_block (w := W) (a := ⟨w.heap.size, 0, none⟩) (hg3.block w.heap.size (by omega) (fun e => by injection e with e; omega))).trans d0
      · rw [List.length_append, List.length_range]; exact hown3)
    rw [hl q hq] at hc
    rw [← hm]
    have hqi : (q : Int) < (R : Int) := by omega
    clear hm hown3 hg3 hst hpl hown hIr hqk hmk
    subst hAe
    gi_wp2
    exact HFIN.out
  case done =>
    rintro D pre W hD hS ⟨⟨d0, hown⟩, hB, hWs⟩ hK
    subst hS
    rw [List.length_range, ← HR.out, Sp.part_done hall] at hown
    clear h5
    have HE := Lib.hid (show ((Sp.cat l R).take sz).length = sz by rw [List.length_take, Sp.cat_len hl]; omega)
    gi_wp2
    refine ⟨by simp, .inl ⟨_, _, rfl, run_takeDeferred hK, ?_⟩⟩
    have hb2 : Below w.heap.size W (W.putObj D (.deferred none)) := belowK_b (w := w) (Nat.le_refl _) W D _ _ (by omega) hK rfl rfl
    have ho := hown.turned (grownBy_putObj' W D (.deferred none)) (fun r e => by cases e; exact ⟨_, hK, rfl⟩)
    exact ⟨_, results_tmp2 rfl _ _ _, _, _, rfl, ho.inn, hB.trans hb2⟩
theorem sjoin_yes (A : Option Addr) (c R k sz : Nat) (P : Nat → Option Addr) (C : Nat → Nat) (l : Nat → List Nat) (w : World) (h : MIn w w.heap.size A c R P C l) (hR : R = Sp.cnt sz k) (hk : 0 < k) (hk2 : k ≤ 9223372036854775807) (hl : ∀ i, i < R → (l i).length = k) (hT : R * k ≤ 2097152) : Calls Try.prog 39 #[.slice A R c, .int .i64 (sz : Int), .int .i64 (k : Int)] w fun e w' => ∃ A2 c2, e = .returned (.tuple #[.slice A2 sz c2, .bool true]) ∧ In w' w'.heap.size A2 c2 ((Sp.cat l R).take sz) ∧ Below w.heap.size w w' :=
  callsIn_wide.1 (sjoin_in A c R k sz P C l w h hR hk hk2 hl hT)
end Go.Proofs.Ytgikgnhpplmljaa
end
section
/- The shares of the statements' first look, as they lie in memory. -/
namespace Go.Proofs.Ytgikgnhpplmljaa
open Go.RowKit Go.Shelf Gw Pol
theorem lit5 (w3 : World) (ti tb tr_ : TypeId) :
    InZ (((((((w3.alloc (.cells #[.int .i64 0, .int .i64 1, .int .i64 2, .int .i64 3, .int .i64 4] ti)).alloc (.cells #[.int .u8 7] tb)).alloc (.cells #[.int .u8 7] tb)).alloc (.cells #[.int .u8 8] tb)).alloc (.cells #[.int .u8 7] tb)).alloc (.cells #[.int .u8 7] tb)).alloc (.cells #[.slice (some ⟨w3.heap.size + 1, 0, none⟩) 1 1, .slice (some ⟨w3.heap.size + 1 + 1, 0, none⟩) 1 1, .slice (some ⟨w3.heap.size + 1 + 1 + 1, 0, none⟩) 1 1, .slice (some ⟨w3.heap.size + 1 + 1 + 1 + 1, 0, none⟩) 1 1, .slice (some ⟨w3.heap.size + 1 + 1 + 1 + 1 + 1, 0, none⟩) 1 1] tr_)) (((((((w3.alloc (.cells #[.int .i64 0, .int .i64 1, .int .i64 2, .int .i64 3, .int .i64 4] ti)).alloc (.cells #[.int .u8 7] tb)).alloc (.cells #[.int .u8 7] tb)).alloc (.cells #[.int .u8 8] tb)).alloc (.cells #[.int .u8 7] tb)).alloc (.cells #[.int .u8 7] tb)).alloc (.cells #[.slice (some ⟨w3.heap.size + 1, 0, none⟩) 1 1, .slice (some ⟨w3.heap.size + 1 + 1, 0, none⟩) 1 1, .slice (some ⟨w3.heap.size + 1 + 1 + 1, 0, none⟩) 1 1, .slice (some ⟨w3.heap.size + 1 + 1 + 1 + 1, 0, none⟩) 1 1, .slice (some ⟨w3.heap.size + 1 + 1 + 1 + 1 + 1, 0, none⟩) 1 1] tr_)).heap.size (some ⟨w3.heap.size, 0, none⟩) 5 [0, 1, 2, 3, 4] ∧ MIn (((((((w3.alloc (.cells #[.int .i64 0, .int .i64 1, .int .i64 2, .int .i64 3, .int .i64 4] ti)).alloc (.cells #[.int .u8 7] tb)).alloc (.cells #[.int .u8 7] tb)).alloc (.cells #[.int .u8 8] tb)).alloc (.cells #[.int .u8 7] tb)).alloc (.cells #[.int .u8 7] tb)).alloc (.cells #[.slice (some ⟨w3.heap.size + 1, 0, none⟩) 1 1, .slice (some ⟨w3.heap.size + 1 + 1, 0, none⟩) 1 1, .slice (some ⟨w3.heap.size + 1 + 1 + 1, 0, none⟩) 1 1, .slice (some ⟨w3.heap.size + 1 + 1 + 1 + 1, 0, none⟩) 1 1, .slice (some ⟨w3.heap.size + 1 + 1 + 1 + 1 + 1, 0, none⟩) 1 1] tr_)) (((((((w3.alloc (.cells #[.int .i64 0, .int .i64 1, .int .i64 2, .int .i64 3, .int .i64 4] ti)).alloc (.cells #[.int .u8 7] tb)).alloc (.cells #[.int .u8 7] tb)).alloc (.cells #[.int .u8 8] tb)).alloc (.cells #[.int .u8 7] tb)).alloc (.cells #[.int .u8 7] tb)).alloc (.cells #[.slice (some ⟨w3.heap.size + 1, 0, none⟩) 1 1, .slice (some ⟨w3.heap.size + 1 + 1, 0, none⟩) 1 1, .slice (some ⟨w3.heap.size + 1 + 1 + 1, 0, none⟩) 1 1, .slice (some ⟨w3.heap.size + 1 + 1 + 1 + 1, 0, none⟩) 1 1, .slice (some ⟨w3.heap.size + 1 + 1 + 1 + 1 + 1, 0, none⟩) 1 1] tr_)).heap.size (some ⟨w3.heap.size + 1 + 1 + 1 + 1 + 1 + 1, 0, none⟩) 5 5 (fun i => some ⟨w3.heap.size + 1 + i, 0, none⟩) (fun _ => 1) l11 ∧ Below w3.heap.size w3 (((((((w3.alloc (.cells #[.int .i64 0, .int .i64 1, .int .i64 2, .int .i64 3, .int .i64 4] ti)).alloc (.cells #[.int .u8 7] tb)).alloc (.cells #[.int .u8 7] tb)).alloc (.cells #[.int .u8 8] tb)).alloc (.cells #[.int .u8 7] tb)).alloc (.cells #[.int .u8 7] tb)).alloc (.cells #[.slice (some ⟨w3.heap.size + 1, 0, none⟩) 1 1, .slice (some ⟨w3.heap.size + 1 + 1, 0, none⟩) 1 1, .slice (some ⟨w3.heap.size + 1 + 1 + 1, 0, none⟩) 1 1, .slice (some ⟨w3.heap.size + 1 + 1 + 1 + 1, 0, none⟩) 1 1, .slice (some ⟨w3.heap.size + 1 + 1 + 1 + 1 + 1, 0, none⟩) 1 1] tr_)) := by
  have hz := InZ.lit w3 ti [0, 1, 2, 3, 4] #[.int .i64 0, .int .i64 1, .int .i64 2, .int .i64 3, .int .i64 4] rfl (fun x hx => by simp at hx; rcases hx with rfl | rfl | rfl | rfl | rfl <;> decide)
  have hI : ∀ i, i < 5 → In (((((((w3.alloc (.cells #[.int .i64 0, .int .i64 1, .int .i64 2, .int .i64 3, .int .i64 4] ti)).alloc (.cells #[.int .u8 7] tb)).alloc (.cells #[.int .u8 7] tb)).alloc (.cells #[.int .u8 8] tb)).alloc (.cells #[.int .u8 7] tb)).alloc (.cells #[.int .u8 7] tb))) (w3.heap.size + 6) (some ⟨w3.heap.size + 1 + i, 0, none⟩) 1 (l11 i) := fun i hi => by
    match i, hi with
    | 0, _ =>
      have h := In.one (w3.alloc (.cells #[.int .i64 0, .int .i64 1, .int .i64 2, .int .i64 3, .int .i64 4] ti)) tb 7 (by omega)
      simp only [World.size_alloc] at h
      have h := h.alloc (by simp only [World.size_alloc]; omega) (.cells #[.int .u8 7] tb)
      have h := h.alloc (by simp only [World.size_alloc]; omega) (.cells #[.int .u8 8] tb)
      have h := h.alloc (by simp only [World.size_alloc]; omega) (.cells #[.int .u8 7] tb)
      have h := h.alloc (by simp only [World.size_alloc]; omega) (.cells #[.int .u8 7] tb)
      exact (h.more (by omega))
    | 1, _ =>
      have h := In.one ((w3.alloc (.cells #[.int .i64 0, .int .i64 1, .int .i64 2, .int .i64 3, .int .i64 4] ti)).alloc (.cells #[.int .u8 7] tb)) tb 7 (by omega)
      simp only [World.size_alloc] at h
      have h := h.alloc (by simp only [World.size_alloc]; omega) (.cells #[.int .u8 8] tb)
      have h := h.alloc (by simp only [World.size_alloc]; omega) (.cells #[.int .u8 7] tb)
      have h := h.alloc (by simp only [World.size_alloc]; omega) (.cells #[.int .u8 7] tb)
      exact (h.more (by omega))
    | 2, _ =>
      have h := In.one (((w3.alloc (.cells #[.int .i64 0, .int .i64 1, .int .i64 2, .int .i64 3, .int .i64 4] ti)).alloc (.cells #[.int .u8 7] tb)).alloc (.cells #[.int .u8 7] tb)) tb 8 (by omega)
      simp only [World.size_alloc] at h
      have h := h.alloc (by simp only [World.size_alloc]; omega) (.cells #[.int .u8 7] tb)
      have h := h.alloc (by simp only [World.size_alloc]; omega) (.cells #[.int .u8 7] tb)
      exact (h.more (by omega))
    | 3, _ =>
      have h := In.one ((((w3.alloc (.cells #[.int .i64 0, .int .i64 1, .int .i64 2, .int .i64 3, .int .i64 4] ti)).alloc (.cells #[.int .u8 7] tb)).alloc (.cells #[.int .u8 7] tb)).alloc (.cells #[.int .u8 8] tb)) tb 7 (by omega)
      simp only [World.size_alloc] at h
      have h := h.alloc (by simp only [World.size_alloc]; omega) (.cells #[.int .u8 7] tb)
      exact (h.more (by omega))
    | 4, _ =>
      have h := In.one (((((w3.alloc (.cells #[.int .i64 0, .int .i64 1, .int .i64 2, .int .i64 3, .int .i64 4] ti)).alloc (.cells #[.int .u8 7] tb)).alloc (.cells #[.int .u8 7] tb)).alloc (.cells #[.int .u8 8] tb)).alloc (.cells #[.int .u8 7] tb)) tb 7 (by omega)
      simp only [World.size_alloc] at h
      exact (h.more (by omega))
    | i + 5, hi => exact absurd hi (by omega)
  have hM := MIn.lit (w := ((((((w3.alloc (.cells #[.int .i64 0, .int .i64 1, .int .i64 2, .int .i64 3, .int .i64 4] ti)).alloc (.cells #[.int .u8 7] tb)).alloc (.cells #[.int .u8 7] tb)).alloc (.cells #[.int .u8 8] tb)).alloc (.cells #[.int .u8 7] tb)).alloc (.cells #[.int .u8 7] tb))) (B := w3.heap.size + 6) (R := 5) tr_ (fun i => some ⟨w3.heap.size + 1 + i, 0, none⟩) (fun _ => 1) l11 #[.slice (some ⟨w3.heap.size + 1, 0, none⟩) 1 1, .slice (some ⟨w3.heap.size + 1 + 1, 0, none⟩) 1 1, .slice (some ⟨w3.heap.size + 1 + 1 + 1, 0, none⟩) 1 1, .slice (some ⟨w3.heap.size + 1 + 1 + 1 + 1, 0, none⟩) 1 1, .slice (some ⟨w3.heap.size + 1 + 1 + 1 + 1 + 1, 0, none⟩) 1 1] (by simp only [World.size_alloc]; omega) (fun i hi => by
    match i, hi with
    | 0, _ => rfl
    | 1, _ => rfl
    | 2, _ => rfl
    | 3, _ => rfl
    | 4, _ => rfl
    | i + 5, hi => exact absurd hi (by omega)) hI
  simp only [World.size_alloc] at hM ⊢
  have hz := hz.alloc (by simp only [World.size_alloc]; omega) (.cells #[.int .u8 7] tb)
  have hz := hz.alloc (by simp only [World.size_alloc]; omega) (.cells #[.int .u8 7] tb)
  have hz := hz.alloc (by simp only [World.size_alloc]; omega) (.cells #[.int .u8 8] tb)
  have hz := hz.alloc (by simp only [World.size_alloc]; omega) (.cells #[.int .u8 7] tb)
  have hz := hz.alloc (by simp only [World.size_alloc]; omega) (.cells #[.int .u8 7] tb)
  have hz := hz.alloc (by simp only [World.size_alloc]; omega) (.cells #[.slice (some ⟨w3.heap.size + 1, 0, none⟩) 1 1, .slice (some ⟨w3.heap.size + 1 + 1, 0, none⟩) 1 1, .slice (some ⟨w3.heap.size + 1 + 1 + 1, 0, none⟩) 1 1, .slice (some ⟨w3.heap.size + 1 + 1 + 1 + 1, 0, none⟩) 1 1, .slice (some ⟨w3.heap.size + 1 + 1 + 1 + 1 + 1, 0, none⟩) 1 1] tr_)
  refine ⟨hz.more (by omega), hM, ?_⟩
  exact ((((((((Below.refl _ w3).alloc (Nat.le_refl _) _)).alloc (by simp only [World.size_alloc]; omega) _).alloc (by simp only [World.size_alloc]; omega) _).alloc (by simp only [World.size_alloc]; omega) _).alloc (by simp only [World.size_alloc]; omega) _).alloc (by simp only [World.size_alloc]; omega) _).alloc (by simp only [World.size_alloc]; omega) _
theorem lit3 (w3 : World) (ti tb tr_ : TypeId) :
    InZ (((((w3.alloc (.cells #[.int .i64 0, .int .i64 1, .int .i64 2] ti)).alloc (.cells #[.int .u8 7] tb)).alloc (.cells #[.int .u8 7] tb)).alloc (.cells #[.int .u8 8] tb)).alloc (.cells #[.slice (some ⟨w3.heap.size + 1, 0, none⟩) 1 1, .slice (some ⟨w3.heap.size + 1 + 1, 0, none⟩) 1 1, .slice (some ⟨w3.heap.size + 1 + 1 + 1, 0, none⟩) 1 1] tr_)) (((((w3.alloc (.cells #[.int .i64 0, .int .i64 1, .int .i64 2] ti)).alloc (.cells #[.int .u8 7] tb)).alloc (.cells #[.int .u8 7] tb)).alloc (.cells #[.int .u8 8] tb)).alloc (.cells #[.slice (some ⟨w3.heap.size + 1, 0, none⟩) 1 1, .slice (some ⟨w3.heap.size + 1 + 1, 0, none⟩) 1 1, .slice (some ⟨w3.heap.size + 1 + 1 + 1, 0, none⟩) 1 1] tr_)).heap.size (some ⟨w3.heap.size, 0, none⟩) 3 [0, 1, 2] ∧ MIn (((((w3.alloc (.cells #[.int .i64 0, .int .i64 1, .int .i64 2] ti)).alloc (.cells #[.int .u8 7] tb)).alloc (.cells #[.int .u8 7] tb)).alloc (.cells #[.int .u8 8] tb)).alloc (.cells #[.slice (some ⟨w3.heap.size + 1, 0, none⟩) 1 1, .slice (some ⟨w3.heap.size + 1 + 1, 0, none⟩) 1 1, .slice (some ⟨w3.heap.size + 1 + 1 + 1, 0, none⟩) 1 1] tr_)) (((((w3.alloc (.cells #[.int .i64 0, .int .i64 1, .int .i64 2] ti)).alloc (.cells #[.int .u8 7] tb)).alloc (.cells #[.int .u8 7] tb)).alloc (.cells #[.int .u8 8] tb)).alloc (.cells #[.slice (some ⟨w3.heap.size + 1, 0, none⟩) 1 1, .slice (some ⟨w3.heap.size + 1 + 1, 0, none⟩) 1 1, .slice (some ⟨w3.heap.size + 1 + 1 + 1, 0, none⟩) 1 1] tr_)).heap.size (some ⟨w3.heap.size + 1 + 1 + 1 + 1, 0, none⟩) 3 3 (fun i => some ⟨w3.heap.size + 1 + i, 0, none⟩) (fun _ => 1) l11 ∧ Below w3.heap.size w3 (((((w3.alloc (.cells #[.int .i64 0, .int .i64 1, .int .i64 2] ti)).alloc (.cells #[.int .u8 7] tb)).alloc (.cells #[.int .u8 7] tb)).alloc (.cells #[.int .u8 8] tb)).alloc (.cells #[.slice (some ⟨w3.heap.size + 1, 0, none⟩) 1 1, .slice (some ⟨w3.heap.size + 1 + 1, 0, none⟩) 1 1, .slice (some ⟨w3.heap.size + 1 + 1 + 1, 0, none⟩) 1 1] tr_)) := by
  have hz := InZ.lit w3 ti [0, 1, 2] #[.int .i64 0, .int .i64 1, .int .i64 2] rfl (fun x hx => by simp at hx; rcases hx with rfl | rfl | rfl <;> decide)
  have hI : ∀ i, i < 3 → In (((((w3.alloc (.cells #[.int .i64 0, .int .i64 1, .int .i64 2] ti)).alloc (.cells #[.int .u8 7] tb)).alloc (.cells #[.int .u8 7] tb)).alloc (.cells #[.int .u8 8] tb))) (w3.heap.size + 4) (some ⟨w3.heap.size + 1 + i, 0, none⟩) 1 (l11 i) := fun i hi => by
    match i, hi with
    | 0, _ =>
      have h := In.one (w3.alloc (.cells #[.int .i64 0, .int .i64 1, .int .i64 2] ti)) tb 7 (by omega)
      simp only [World.size_alloc] at h
      have h := h.alloc (by simp only [World.size_alloc]; omega) (.cells #[.int .u8 7] tb)
      have h := h.alloc (by simp only [World.size_alloc]; omega) (.cells #[.int .u8 8] tb)
      exact (h.more (by omega))
    | 1, _ =>
      have h := In.one ((w3.alloc (.cells #[.int .i64 0, .int .i64 1, .int .i64 2] ti)).alloc (.cells #[.int .u8 7] tb)) tb 7 (by omega)
      simp only [World.size_alloc] at h
      have h := h.alloc (by simp only [World.size_alloc]; omega) (.cells #[.int .u8 8] tb)
      exact (h.more (by omega))
    | 2, _ =>
      have h := In.one (((w3.alloc (.cells #[.int .i64 0, .int .i64 1, .int .i64 2] ti)).alloc (.cells #[.int .u8 7] tb)).alloc (.cells #[.int .u8 7] tb)) tb 8 (by omega)
      simp only [World.size_alloc] at h
      exact (h.more (by omega))
    | i + 3, hi => exact absurd hi (by omega)
  have hM := MIn.lit (w := ((((w3.alloc (.cells #[.int .i64 0, .int .i64 1, .int .i64 2] ti)).alloc (.cells #[.int .u8 7] tb)).alloc (.cells #[.int .u8 7] tb)).alloc (.cells #[.int .u8 8] tb))) (B := w3.heap.size + 4) (R := 3) tr_ (fun i => some ⟨w3.heap.size + 1 + i, 0, none⟩) (fun _ => 1) l11 #[.slice (some ⟨w3.heap.size + 1, 0, none⟩) 1 1, .slice (some ⟨w3.heap.size + 1 + 1, 0, none⟩) 1 1, .slice (some ⟨w3.heap.size + 1 + 1 + 1, 0, none⟩) 1 1] (by simp only [World.size_alloc]; omega) (fun i hi => by
    match i, hi with
    | 0, _ => rfl
    | 1, _ => rfl
    | 2, _ => rfl
    | i + 3, hi => exact absurd hi (by omega)) hI
  simp only [World.size_alloc] at hM ⊢
  have hz := hz.alloc (by simp only [World.size_alloc]; omega) (.cells #[.int .u8 7] tb)
  have hz := hz.alloc (by simp only [World.size_alloc]; omega) (.cells #[.int .u8 7] tb)
  have hz := hz.alloc (by simp only [World.size_alloc]; omega) (.cells #[.int .u8 8] tb)
  have hz := hz.alloc (by simp only [World.size_alloc]; omega) (.cells #[.slice (some ⟨w3.heap.size + 1, 0, none⟩) 1 1, .slice (some ⟨w3.heap.size + 1 + 1, 0, none⟩) 1 1, .slice (some ⟨w3.heap.size + 1 + 1 + 1, 0, none⟩) 1 1] tr_)
  refine ⟨hz.more (by omega), hM, ?_⟩
  exact ((((((Below.refl _ w3).alloc (Nat.le_refl _) _)).alloc (by simp only [World.size_alloc]; omega) _).alloc (by simp only [World.size_alloc]; omega) _).alloc (by simp only [World.size_alloc]; omega) _).alloc (by simp only [World.size_alloc]; omega) _
end Go.Proofs.Ytgikgnhpplmljaa
end
section
/- A region that leaves its order open, where some operations turn memory that was there ('append' onto a row of one's own): of each operation's value a predicate; of each operation that turns something what it turns, and what it may count on as long as it has not come. Outside a round of a range over a function, and inside one. -/
namespace Gt
open Go Go.RowKit
/-- An operation that turns something: its number; what it turns; what it may count on as long as it has not come. -/
structure Sp where
  ix : Nat
  rel : World → World → Prop
  fact : World → Prop
def Rf (sp : List Sp) (k : Nat) : World → World → Prop := match sp.find? (fun x => x.ix == k) with | some x => x.rel | none => Gr
def Ff (sp : List Sp) (k : Nat) : World → Prop := match sp.find? (fun x => x.ix == k) with | some x => x.fact | none => fun _ => True
structure Laws (ops : Array Oper) (S : World → Prop) (sp : List Sp) (T : Nat → Value → World → Prop) : Prop where
  refl : ∀ x ∈ sp, ∀ w, x.rel w w
  sG : ∀ w w', S w → Gr w w' → S w'
  sR : ∀ x ∈ sp, ∀ w w', S w → x.rel w w' → S w'
  fG : ∀ x ∈ sp, ∀ w w', x.fact w → Gr w w' → x.fact w'
  fR : ∀ x ∈ sp, ∀ y ∈ sp, x.ix ≠ y.ix → ∀ w w', x.fact w → y.rel w w' → x.fact w'
  tG : ∀ j v w w', T j v w → Gr w w' → T j v w'
  tR : ∀ y ∈ sp, ∀ j o, ops[j]? = some o → j ≠ y.ix → preds o y.ix = false → ∀ v w w', T j v w → y.rel w w' → T j v w'
def ObJ (P : Program) (S : World → Prop) (sp : List Sp) (T : Nat → Value → World → Prop) (a0 : Act) (i : Nat) (o : Oper) (p : Plan) : Prop :=
  ∀ a w, S w → Ff sp i w → Pre T a w p.ds (Kept a a0 p.ks (Guarded a p.gd (StepOK P (Rf sp i) (T i) w ((execOp a.eval o).run P w)) (T i undef w)))
def ObsJ (P : Program) (S : World → Prop) (sp : List Sp) (T : Nat → Value → World → Prop) (a0 : Act) : Nat → List Oper → List Plan → Prop
  | i, o :: t, p :: ps => ObJ P S sp T a0 i o p ∧ ObsJ P S sp T a0 (i + 1) t ps
  | _, _, _ => True
section
variable {P : Program} {ops : Array Oper} {S : World → Prop} {sp : List Sp} {T : Nat → Value → World → Prop} {a0 : Act} {l m : Nat}
structure InvJ (ops : Array Oper) (S : World → Prop) (sp : List Sp) (T : Nat → Value → World → Prop) (a0 : Act) (s : Array Bool) (a : Act) (w : World) : Prop where
  size : s.size = ops.size
  closed : ∀ j oj, ops[j]? = some oj → s.getD j false = true → ∀ e ∈ oj.after, Region.binds .any e = true → s.getD e.on false = true
  st : S w
  un : ∀ x ∈ sp, s.getD x.ix false = false → x.fact w
  tmps : a.tmps.size = a0.tmps.size
  defers : a.defers = a0.defers
  old : ∀ k, (∀ j o, ops[j]? = some o → s.getD j false = true → o.dst ≠ some k) → a.eval (.tmp k) = a0.eval (.tmp k)
  vals : ∀ j o d, ops[j]? = some o → s.getD j false = true → o.dst = some d → T j (a.eval (.tmp d)) w
theorem obsJ_at {t : List Oper} : ∀ {plan : List Plan} {k : Nat}, ObsJ P S sp T a0 k t plan → ∀ {i : Nat} {o : Oper} {p : Plan}, t[i]? = some o → plan[i]? = some p → ObJ P S sp T a0 (k + i) o p := by
  induction t with
  | nil => intro plan k _ i o p h; simp at h
  | cons x t ih =>
    intro plan k h i o p h1 h2
    cases plan with
    | nil => simp at h2
    | cons q ps =>
      cases i with
      | zero => simp at h1 h2; subst h1 h2; exact h.1
      | succ i =>
        have := ih h.2 (i := i) (by simpa using h1) (by simpa using h2)
        rw [show k + (i + 1) = k + 1 + i from by omega]; exact this
theorem Rf_cases (sp : List Sp) (k : Nat) : Rf sp k = Gr ∨ ∃ x ∈ sp, x.ix = k ∧ Rf sp k = x.rel := by
  unfold Rf
  cases h : sp.find? (fun x => x.ix == k) with
  | none => exact .inl rfl
  | some x => exact .inr ⟨x, List.mem_of_find?_eq_some h, by simpa using List.find?_some h, rfl⟩
theorem Laws.Rrefl (L : Laws ops S sp T) (k : Nat) (w : World) : Rf sp k w w := by
  rcases Rf_cases sp k with h | ⟨x, hx, _, h⟩
  · rw [h]; exact Gr.refl w
  · rw [h]; exact L.refl x hx w
theorem InvJ.step {s : Array Bool} {a : Act} {w w' : World} {i : Nat} {o : Oper} {v : Value} {n : Nat} {p : Plan} (inv : InvJ ops S sp T a0 s a w) (L : Laws ops S sp T)
    (hn : a0.tmps.size = n) (hi : i ∈ Region.ready .any ops s) (ho : ops[i]? = some o) (hb : opB ops n i o p = true) (hw : Rf sp i w w') (hv : T i v w') : InvJ ops S sp T a0 (s.setIfInBounds i true) (a.put o.dst v) w' := by
  obtain ⟨hun, oi, hoi, hall⟩ := mem_ready.1 hi
  rw [ho] at hoi
  obtain rfl : o = oi := by simpa using hoi
  have hsz : i < s.size := by rw [inv.size]; exact (Array.getElem?_eq_some_iff.1 ho).1
  simp only [opB, Bool.and_eq_true] at hb
  obtain ⟨⟨⟨⟨⟨hb1, _⟩, _⟩, _⟩, hb5⟩, _⟩ := hb
  have hset : ∀ j, (s.setIfInBounds i true).getD j false = true → j = i ∨ s.getD j false = true := fun j hj => by
    by_cases e : j = i
    · exact .inl e
    · right; rwa [getD_set_ne false (Ne.symm e)] at hj
  have hst : S w' := by
    rcases Rf_cases sp i with h | ⟨x, hx, _, h⟩
    · exact L.sG _ _ inv.st (h ▸ hw)
    · exact L.sR x hx _ _ inv.st (h ▸ hw)
  refine ⟨by simp [inv.size], fun j oj hj hl e he hbd => ?_, hst, fun x hx hl => ?_, ?_, ?_, fun k hk => ?_, fun j oj d hj hl hd => ?_⟩
  · rcases hset j hl with rfl | h
    · rw [ho] at hj; obtain rfl : o = oj := by simpa using hj
      exact getD_set_true (hall e he hbd)
    · exact getD_set_true (inv.closed j oj hj h e he hbd)
  · have hne : x.ix ≠ i := fun e => by
      rw [e] at hl
      have : (s.setIfInBounds i true).getD i false = true := by simp [hsz]
      rw [this] at hl; cases hl
    rw [getD_set_ne false (Ne.symm hne)] at hl
    have hf := inv.un x hx hl
    rcases Rf_cases sp i with h | ⟨y, hy, hyi, h⟩
    · exact L.fG x hx _ _ hf (h ▸ hw)
    · exact L.fR x hx y hy (by rw [hyi]; exact hne) _ _ hf (h ▸ hw)
  · rw [← inv.tmps]; cases o.dst <;> simp [Act.put]
  · rw [← inv.defers]; cases o.dst <;> simp [Act.put]
  · have h1 : o.dst ≠ some k := hk i o ho (by simp [hsz])
    rw [Act.eval_put fun d hd hx => h1 (by rw [hd]; injection hx with hx; rw [hx])]
    exact inv.old k fun j oj hj hl => hk j oj hj (getD_set_true hl)
  · rcases hset j hl with rfl | h
    · rw [ho] at hj; obtain rfl : o = oj := by simpa using hj
      rw [hd] at hb1 ⊢
      rw [eval_put_same (by rw [inv.tmps, hn]; simpa using hb1)]
      exact hv
    · by_cases e : j = i
      · subst e; rw [getD_both hun] at h; cases h
      · have h1 := (List.all_eq_true.1 hb5) j (List.mem_range.2 (Array.getElem?_eq_some_iff.1 hj).1)
        simp only [hj, Bool.or_eq_true, beq_iff_eq, e, false_or] at h1
        have hne : ∀ d', o.dst = some d' → Operand.tmp d ≠ .tmp d' := fun d' hd' hx => by
          injection hx with hx
          rcases h1 with h1 | h1
          · rw [hd'] at h1; cases h1
          · rw [hd', hd, hx] at h1; simp at h1
        rw [Act.eval_put fun d' hd' => hne d' hd']
        have hvj := inv.vals j oj d hj h hd
        rcases Rf_cases sp i with h2 | ⟨y, hy, hyi, h2⟩
        · exact L.tG _ _ _ _ hvj (h2 ▸ hw)
        · refine L.tR y hy j oj hj (by rw [hyi]; exact e) ?_ _ _ _ hvj (h2 ▸ hw)
          cases hp : preds oj y.ix with
          | false => rfl
          | true =>
            obtain ⟨e2, he2, hbd2, hon2⟩ := preds_spec hp
            have h3 := inv.closed j oj hj h e2 he2 hbd2
            rw [hon2, hyi, getD_both hun] at h3
            cases h3
/-- What is known of an operation that comes up. -/
theorem known {n i : Nat} {o : Oper} {p : Plan} {s : Array Bool} {a : Act} {w : World} (inv : InvJ ops S sp T a0 s a w) (hi : i ∈ Region.ready .any ops s) (ho : ops[i]? = some o) (hb : opB ops n i o p = true)
    (hob1 : ObJ P S sp T a0 i o p) : Guarded a p.gd (StepOK P (Rf sp i) (T i) w ((execOp a.eval o).run P w)) (T i undef w) := by
  obtain ⟨hun, oi, hoi, hall⟩ := mem_ready.1 hi
  rw [ho] at hoi
  obtain rfl : o = oi := by simpa using hoi
  have hff : Ff sp i w := by
    unfold Ff
    cases h : sp.find? (fun x => x.ix == i) with
    | none => trivial
    | some x =>
      have hx : x.ix = i := by simpa using List.find?_some h
      exact inv.un x (List.mem_of_find?_eq_some h) (by rw [hx, getD_both hun])
  have hob1 := hob1 a w inv.st hff
  simp only [opB, Bool.and_eq_true] at hb
  obtain ⟨⟨⟨⟨⟨_, _⟩, hb3⟩, hb4⟩, _⟩, hb6⟩ := hb
  have hob2 := hob1.out fun x hx => by
    have h1 := List.all_eq_true.1 hb3 x hx
    simp only [Bool.and_eq_true] at h1
    obtain ⟨oj, hoj, hdj⟩ := dstB_spec h1.1
    obtain ⟨e, he, hbd, hon⟩ := preds_spec h1.2
    exact inv.vals x.1 oj x.2 hoj (hon ▸ hall e he hbd) hdj
  exact hob2.out fun k hk => by
    have h1 := List.all_eq_true.1 hb4 k hk
    refine inv.old k fun j oj hj hl hd => ?_
    have h2 := List.all_eq_true.1 h1 j (List.mem_range.2 (Array.getElem?_eq_some_iff.1 hj).1)
    simp only [hj, Bool.or_eq_true, beq_iff_eq] at h2
    rcases h2 with rfl | h2
    · rw [getD_both hun] at hl; cases hl
    · rcases h2 with h2 | h2
      · rw [hd] at h2; simp at h2
      · obtain ⟨e, he, hbd, hon⟩ := preds_spec h2
        have h3 := inv.closed j oj hj hl e he hbd
        rw [hon, getD_both hun] at h3
        cases h3
/-- What its guard says. -/
theorem asked {n i : Nat} {o : Oper} {p : Plan} {a : Act} {G N : Prop} (hb : opB ops n i o p = true) (h : Guarded a p.gd G N) : if Region.wanted o (yielded ops a.tmps) = true then G else N := by
  simp only [opB, Bool.and_eq_true] at hb
  have hb6 := hb.2
  unfold Region.wanted
  cases hg : o.guard with
  | none =>
    simp only [if_true]
    cases hpg : p.gd with
    | none => rw [hpg] at h; exact h
    | some q => simp [hg, hpg] at hb6
  | some q =>
    obtain ⟨g, b⟩ := q
    cases hpg : p.gd with
    | none => simp [hg, hpg] at hb6
    | some q2 =>
      obtain ⟨d, b'⟩ := q2
      simp only [hg, hpg, Bool.and_eq_true, beq_iff_eq] at hb6
      obtain ⟨hb7, rfl⟩ := hb6
      rw [hpg] at h
      simp only []
      by_cases hw : (yielded ops a.tmps g == some b) = true
      · rw [if_pos hw]; exact h.1 ((yielded_eval hb7).1 hw)
      · rw [if_neg hw]; exact h.2 fun h => hw ((yielded_eval hb7).2 h)
theorem op_ofJ {Q : Exit → Act → World → Prop} {K : Act → World → Prop} {n i : Nat} {o : Oper} {p : Plan} {s : Array Bool} {a : Act} {w : World} (L : Laws ops S sp T) (inv : InvJ ops S sp T a0 s a w) (hi : i ∈ Region.ready .any ops s) (ho : ops[i]? = some o) (hb : opB ops n i o p = true)
    (hob1 : ObJ P S sp T a0 i o p) (hK : ∀ v w', Rf sp i w w' → T i v w' → K (a.put o.dst v) w') : wpOp P ops Q i K a w := by
  have h := asked hb (known inv hi ho hb hob1)
  unfold wpOp
  simp only [ho]
  split at h
  · rename_i hw
    rw [if_pos hw]
    left
    unfold Oper.wp
    cases hr : (execOp a.eval o).run P w with
    | ok x w' =>
      rw [hr] at h
      cases x with
      | value u => exact hK _ _ h.1 h.2
      | skip => exact hK _ _ h.1 h.2
      | enter g args =>
        refine Calls.mono h fun e w'' he => ?_
        obtain ⟨v, rfl, h1, h2⟩ := he
        exact hK _ _ h1 h2
      | _ => exact h.elim
    | halt x w' => rw [hr] at h; exact h.elim
  · rename_i hw
    rw [if_neg hw]
    exact hK _ _ (L.Rrefl i w) h
theorem op_inJ {Q : Exit → Act → World → Prop} {K : Act → World → Prop} {n i : Nat} {o : Oper} {p : Plan} {s : Array Bool} {a : Act} {w : World} (L : Laws ops S sp T) (hd : ∀ c, o.op ≠ .defer c) (inv : InvJ ops S sp T a0 s a w) (hi : i ∈ Region.ready .any ops s) (ho : ops[i]? = some o) (hb : opB ops n i o p = true)
    (hob1 : ObJ P S sp T a0 i o p) (hK : ∀ v w', Rf sp i w w' → T i v w' → K (a.put o.dst v) w') : wpOpIn (Fence.wide.inRound l) m P ops Q i K a w := by
  have h := asked hb (known inv hi ho hb hob1)
  unfold wpOpIn
  simp only [ho]
  split at h
  · rename_i hw
    rw [if_pos hw]
    refine ⟨fun _ _ => trivial, ?_⟩
    rw [Oper.semAt_plain _ _ _ hd]
    cases hr : (execOp a.eval o).run P w with
    | ok x w' =>
      rw [hr] at h
      cases x with
      | value u => exact hK _ _ h.1 h.2
      | skip => exact hK _ _ h.1 h.2
      | enter g args =>
        refine ⟨fun hx => by simp [Fence.wide, Fence.inRound] at hx, CallsIn.inRound l (callsIn_wide.2 (Calls.mono h fun e w'' he => ?_))⟩
        obtain ⟨v, rfl, h1, h2⟩ := he
        exact hK _ _ h1 h2
      | _ => exact h.elim
    | halt x w' => rw [hr] at h; exact h.elim
  · rename_i hw
    rw [if_neg hw]
    exact ⟨fun _ _ => trivial, hK _ _ (L.Rrefl i w) h⟩
/-- The first h in whatever order, by one law for an operation that comes up (Wo), and one for what is behind (Wl). -/
theorem any_tailJ {Wn : Nat → Array Bool → Act → World → Prop} {Wo : Nat → (Act → World → Prop) → Act → World → Prop} {Wl : Act → World → Prop} {n h : Nat} {plan : List Plan} {t : List Oper} (L : Laws t.toArray S sp T)
    (hWn : ∀ f s a w, Region.ready .any t.toArray s ≠ [] → (∀ i ∈ Region.ready .any t.toArray s, Wo i (Wn f (s.setIfInBounds i true)) a w) → Wn (f + 1) s a w)
    (hWo : ∀ (i : Nat) (o : Oper) (p : Plan) (s : Array Bool) (a : Act) (w : World) (K : Act → World → Prop), InvJ t.toArray S sp T a0 s a w → i ∈ Region.ready .any t.toArray s → t.toArray[i]? = some o → opB t.toArray n i o p = true → ObJ P S sp T a0 i o p → (∀ v w', Rf sp i w w' → T i v w' → K (a.put o.dst v) w') → Wo i K a w)
    (hWl : ∀ s a w, Region.seqB .any t.toArray (t.drop h).length h s = true → Wl a w → Wn (t.drop h).length s a w)
    (hB : okB t.toArray n plan = true) (hn : a0.tmps.size = n) (hh : h ≤ t.toArray.size) (hs : h < t.toArray.size → Region.sinkB .any t.toArray h = true ∧ Region.chainB .any t.toArray h = true)
    (hq : Region.seqB .any t.toArray (t.drop h).length h (headS t.toArray.size h) = true)
    (hob : ObsJ P S sp T a0 0 (t.take h) plan) (hQ : ∀ s a w, InvJ t.toArray S sp T a0 s a w → (∀ i, i < h → s.getD i false = true) → (∀ j, h ≤ j → j < t.toArray.size → s.getD j true = false) → Wl a w) :
    ∀ (f : Nat) (s : Array Bool) (a : Act) (w : World), (s.toList.take h).count false = f → InvJ t.toArray S sp T a0 s a w → (∀ j, h ≤ j → j < t.toArray.size → s.getD j true = false) → Wn (f + (t.drop h).length) s a w := by
  intro f
  induction f with
  | zero =>
    intro s a w hf inv htl
    have hall : ∀ i, i < h → s.getD i false = true := fun i hi => by
      have hlt : i < s.size := by rw [inv.size]; omega
      by_cases e : s[i] = true
      · simp [hlt, e]
      · exfalso
        have h1 : s[i] = false := by simpa using e
        have : false ∈ s.toList.take h := by
          rw [List.mem_take_iff_getElem]
          exact ⟨i, by simp; omega, by simpa using h1⟩
        rw [List.count_eq_zero] at hf
        exact hf this
    have hse : s = headS t.toArray.size h := by
      apply Array.ext
      · simp [headS, inv.size]
      · intro i h1 h2
        have hi : i < t.toArray.size := by rw [← inv.size]; exact h1
        simp only [headS, List.getElem_toArray, List.getElem_map, List.getElem_range]
        by_cases e : i < h
        · have := hall i e
          simp only [e, decide_true]
          simpa [h1] using this
        · have := htl i (by omega) hi
          simp only [e, decide_false]
          simpa [h1] using this
    rw [Nat.zero_add]
    exact hWl s a w (by rw [hse]; exact hq) (hQ s a w inv hall htl)
  | succ f ih =>
    intro s a w hf inv htl
    rw [show f + 1 + (t.drop h).length = (f + (t.drop h).length) + 1 from by omega]
    have hB' : ∀ (i : Nat) (o : Oper), t.toArray[i]? = some o → ∃ p, opB t.toArray n i o p = true := fun i o ho => (okB_at hB ho).imp fun p h => h.2
    have hex : ∃ k, k < h ∧ s.getD k true = false := by
      have : 0 < (s.toList.take h).count false := by omega
      rw [List.count_pos_iff, List.mem_take_iff_getElem] at this
      obtain ⟨k, hk, e⟩ := this
      have hk1 : k < h := by simp at hk; omega
      have hk2 : k < s.size := by simp at hk; omega
      have e' : s[k] = false := by simpa using e
      exact ⟨k, hk1, by simp [hk2, e']⟩
    obtain ⟨k0, hk0, hk0s⟩ := hex
    refine hWn _ _ _ _ (fun hr => ?_) fun i hi => ?_
    · have h1 := done hB' inv.size hr k0 (by omega)
      have h2 := getD_both hk0s
      rw [h2] at h1
      cases h1
    · obtain ⟨hun, o, ho, hall⟩ := mem_ready.1 hi
      have hlt : i < s.size := by rw [inv.size]; exact (Array.getElem?_eq_some_iff.1 ho).1
      have hhead : HeadInv .any t.toArray h s := ⟨inv.size, inv.closed, htl⟩
      have hih : i < h := by
        refine Nat.lt_of_not_le fun hle => ?_
        have hlt' : h < t.toArray.size := by have := inv.size; omega
        exact tail_waits (hs hlt').1 (hs hlt').2 hlt' hhead _ k0 rfl hk0 hk0s i hle hi
      have hcnt : ((s.setIfInBounds i true).toList.take h).count false = f := by
        have h1 : s[i] = false := by simpa [hlt] using hun
        rw [Array.toList_setIfInBounds, List.take_set, List.count_set (by simp; omega)]
        simp [h1, hf]
      obtain ⟨p, hp, hb⟩ := okB_at hB ho
      have hob1 := obsJ_at hob (i := i) (by rw [List.getElem?_take_of_lt hih]; simpa using ho) hp
      rw [Nat.zero_add] at hob1
      exact hWo i o p s a w _ inv hi ho hb hob1 fun v w' h1 h2 => ih _ _ _ hcnt (inv.step L hn hi ho hb h1 h2) fun j hj hj' => by
        rw [getD_set_ne true (by omega)]; exact htl j hj hj'
theorem invJ_end {t : List Oper} {h : Nat} {es : List (Nat × Nat)} {G : Act → Prop} (hE : allB t h es = true) {s : Array Bool} {a : Act} {w : World} (inv : InvJ t.toArray S sp T a0 s a w) (hall : ∀ i, i < h → s.getD i false = true) (htl : ∀ j, h ≤ j → j < t.toArray.size → s.getD j true = false)
    (hQ : Pre T a w es (G (puts a es a0))) : G a := by
  simp only [allB, Bool.and_eq_true] at hE
  have h1 := hQ.out fun x hx => by
    have h5 := List.all_eq_true.1 hE.1 x hx
    simp only [Bool.and_eq_true, decide_eq_true_eq] at h5
    obtain ⟨o, ho, hd⟩ := dstB_spec h5.2
    exact inv.vals x.1 o x.2 ho (hall _ h5.1) hd
  rw [puts_eq inv.tmps.symm inv.defers.symm fun k => ?_] at h1
  · exact h1
  · by_cases e : k ∈ es.map (·.2)
    · exact .inr e
    · refine .inl (inv.old k fun j o hj hl hd => ?_).symm
      have hjh : j < h := Nat.lt_of_not_le fun hle => by
        rw [getD_both (htl j hle (Array.getElem?_eq_some_iff.1 hj).1)] at hl; cases hl
      have h5 := List.all_eq_true.1 hE.2 j (List.mem_range.2 hjh)
      simp only [hj, hd] at h5
      rw [List.any_eq_true] at h5
      obtain ⟨x, hx, hk⟩ := h5
      exact e (List.mem_map.2 ⟨x, hx, by simpa using hk⟩)
/-- The first h operations may come in whatever order; the rest, if there is one, comes behind them, one behind the other. -/
def tailJ (t : List Oper) (h : Nat) : Bool := decide (h ≤ t.toArray.size) && (decide (t.toArray.size ≤ h) || (Region.sinkB .any t.toArray h && Region.chainB .any t.toArray h)) && Region.seqB .any t.toArray (t.drop h).length h (headS t.toArray.size h)
theorem inv0 {t : List Oper} {w0 : World} (h0 : S { w0 with drawn := w0.drawn + 1 }) (hf : ∀ x ∈ sp, x.fact { w0 with drawn := w0.drawn + 1 }) : InvJ t.toArray S sp T a0 (Array.replicate t.toArray.size false) a0 { w0 with drawn := w0.drawn + 1 } :=
  ⟨by simp, fun j oj _ hl => (by rw [getD_replicate_false] at hl; cases hl), h0, fun x hx _ => hf x hx, rfl, rfl, fun _ _ => rfl, fun j o d _ hl => (by rw [getD_replicate_false] at hl; cases hl)⟩
/-- **Each of the first h operations once, whatever order comes; then the rest.** -/
theorem regionJ {w0 : World} {id : Nat} {Q : Exit → Act → World → Prop} {t : List Oper} (S : World → Prop) (sp : List Sp) (Ts : List (Value → World → Prop)) (n h : Nat) (plan : List Plan) (es : List (Nat × Nat)) (hm : P.follows .mixedOrders = true) (hn : a0.tmps.size = n) (hB : okB t.toArray n plan = true) (hT : tailJ t h = true) (hE : allB t h es = true)
    (L : Laws t.toArray S sp (tys Ts)) (h0 : S { w0 with drawn := w0.drawn + 1 }) (hf : ∀ x ∈ sp, x.fact { w0 with drawn := w0.drawn + 1 })
    (hob : ObsJ P S sp (tys Ts) a0 0 (t.take h) plan) (hQ : ∀ a w, S w → Pre (tys Ts) a w es (wpList P t.toArray Q (t.drop h) (puts a es a0) w)) : (Code.region id t.toArray true).wp P Q a0 w0 := by
  simp only [tailJ, Bool.and_eq_true, Bool.or_eq_true, decide_eq_true_eq] at hT
  obtain ⟨⟨h1, h2⟩, h4⟩ := hT
  have h1' : h ≤ t.length := by simpa using h1
  have hsz : h + (t.drop h).length = t.toArray.size := by simp; omega
  have key := any_tailJ (P := P) (S := S) (sp := sp) (T := tys Ts) (a0 := a0) (Wn := fun f s a w => wpAny P .any t.toArray Q f s a w) (Wo := fun i K a w => wpOp P t.toArray Q i K a w) (Wl := fun a w => wpList P t.toArray Q (t.drop h) a w) L
    (fun f s a w hne hall => ⟨fun hr => absurd hr hne, hall⟩) (fun i o p s a w K inv hi ho hb hob hK => op_ofJ L inv hi ho hb hob hK)
    (fun s a w hB hl => wpAny_of_seq (t.drop h) h s a w (fun j => by simp [List.getElem?_drop]) hB hl) hB hn h1 (fun hlt => h2.resolve_left (by omega)) h4 hob
    (fun s a w inv hall htl => invJ_end (G := fun a => wpList P t.toArray Q (t.drop h) a w) hE inv hall htl (hQ a w inv.st)) h (Array.replicate t.toArray.size false) a0 { w0 with drawn := w0.drawn + 1 } (by simp; omega) (inv0 h0 hf) (fun j _ hj => getD_in (by simpa using hj) (getD_replicate_false _ _))
  rw [hsz] at key
  exact wp_region_any hm key
/-- The same inside a round. -/
theorem regionJI {w0 : World} {id : Nat} {Q : Exit → Act → World → Prop} {t : List Oper} (S : World → Prop) (sp : List Sp) (Ts : List (Value → World → Prop)) (n h : Nat) (plan : List Plan) (es : List (Nat × Nat)) (hm : P.follows .mixedOrders = true) (hn : a0.tmps.size = n) (hB : okB t.toArray n plan = true) (hT : tailJ t h = true) (hE : allB t h es = true)
    (hd : Gq.noDefer t = true) (L : Laws t.toArray S sp (tys Ts)) (h0 : S { w0 with drawn := w0.drawn + 1 }) (hf : ∀ x ∈ sp, x.fact { w0 with drawn := w0.drawn + 1 })
    (hob : ObsJ P S sp (tys Ts) a0 0 (t.take h) plan) (hQ : ∀ a w, S w → Pre (tys Ts) a w es (wpListIn (Fence.wide.inRound l) m P t.toArray Q (t.drop h) (puts a es a0) w)) : (Code.region id t.toArray true).wpIn (Fence.wide.inRound l) m P Q a0 w0 := by
  simp only [tailJ, Bool.and_eq_true, Bool.or_eq_true, decide_eq_true_eq] at hT
  obtain ⟨⟨h1, h2⟩, h4⟩ := hT
  have h1' : h ≤ t.length := by simpa using h1
  have hsz : h + (t.drop h).length = t.toArray.size := by simp; omega
  have key := any_tailJ (P := P) (S := S) (sp := sp) (T := tys Ts) (a0 := a0) (Wn := fun f s a w => wpAnyIn (Fence.wide.inRound l) m P .any t.toArray Q f s a w) (Wo := fun i K a w => wpOpIn (Fence.wide.inRound l) m P t.toArray Q i K a w) (Wl := fun a w => wpListIn (Fence.wide.inRound l) m P t.toArray Q (t.drop h) a w) L
    (fun f s a w hne hall => ⟨fun hr => absurd hr hne, hall⟩) (fun i o p s a w K inv hi ho hb hob hK => op_inJ L (Gq.noDefer_spec hd i o ho) inv hi ho hb hob hK)
    (fun s a w hB hl => Gq.anyIn_of_seq (t.drop h) h s a w (fun j => by simp [List.getElem?_drop]) hB hl) hB hn h1 (fun hlt => h2.resolve_left (by omega)) h4 hob
    (fun s a w inv hall htl => invJ_end (G := fun a => wpListIn (Fence.wide.inRound l) m P t.toArray Q (t.drop h) a w) hE inv hall htl (hQ a w inv.st)) h (Array.replicate t.toArray.size false) a0 { w0 with drawn := w0.drawn + 1 } (by simp; omega) (inv0 h0 hf) (fun j _ hj => getD_in (by simpa using hj) (getD_replicate_false _ _))
  rw [hsz] at key
  exact wpIn_region_any hm key
/-- What growth bears another relation bears, too. -/
def MonosBy (r : World → World → Prop) : List (Value → World → Prop) → Prop
  | [] => True
  | V :: t => (∀ v w w', V v w → r w w' → V v w') ∧ MonosBy r t
theorem monosBy_at {r : World → World → Prop} : ∀ {Ts : List (Value → World → Prop)}, MonosBy r Ts → ∀ i v w w', tys Ts i v w → r w w' → tys Ts i v w'
  | [], _, _, _, _, _, _, _ => trivial
  | _ :: _, h, 0, v, w, w', hv, hg => h.1 v w w' hv hg
  | _ :: _, h, i + 1, v, w, w', hv, hg => monosBy_at h.2 i v w w' hv hg
/-- Nothing is turned. -/
theorem Laws.grow {Ts : List (Value → World → Prop)} (hS : ∀ w w', S w → Gr w w' → S w') (hm : Monos Ts) : Laws ops S [] (tys Ts) :=
  ⟨fun _ h => (by cases h), hS, fun _ h => (by cases h), fun _ h => (by cases h), fun _ h => (by cases h), monos_at hm, fun _ h => (by cases h)⟩
/-- One operation turns something; of those values that do not come behind it each bears it. -/
theorem Laws.one {Ts : List (Value → World → Prop)} {x : Sp} (hr : ∀ w, x.rel w w) (hS : ∀ w w', S w → Gr w w' → S w') (hS' : ∀ w w', S w → x.rel w w' → S w') (hF : ∀ w w', x.fact w → Gr w w' → x.fact w') (hm : Monos Ts)
    (hx : ∀ j, j ≠ x.ix → (∀ o, ops[j]? = some o → preds o x.ix = false) → ∀ v w w', tys Ts j v w → x.rel w w' → tys Ts j v w') : Laws ops S [x] (tys Ts) :=
  ⟨fun y h => (by rw [List.mem_singleton.1 h]; exact hr), hS, fun y h => (by rw [List.mem_singleton.1 h]; exact hS'), fun y h => (by rw [List.mem_singleton.1 h]; exact hF),
   fun y h z k hne => (by rw [List.mem_singleton.1 h, List.mem_singleton.1 k] at hne; exact absurd rfl hne), monos_at hm, fun y h j o ho hj hp => by
    rw [List.mem_singleton.1 h] at hj hp ⊢
    exact hx j hj fun o' ho' => by rw [ho] at ho'; injection ho' with ho'; rw [← ho']; exact hp⟩
end
section
variable {P : Program} {w : World} {V : Value → World → Prop} {ρ : Operand → Value} {o : Oper} {R : World → World → Prop}
theorem ok_runR {v : Value} {w' : World} (h : (execOp ρ o).run P w = .ok (.value v) w') (hg : R w w') (hv : V v w') : StepOK P R V w ((execOp ρ o).run P w) := by
  rw [h]; exact ⟨hg, hv⟩
end
end Gt
end
