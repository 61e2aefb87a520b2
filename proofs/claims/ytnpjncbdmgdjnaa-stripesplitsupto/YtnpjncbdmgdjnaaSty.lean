/- stripe: Columns, and the pieces of a document one by one. -/
import Derived.Test.YtnpjncbdmgdjnaaSti
import Derived.Test.YtnpjncbdmgdjnaaLawb
import Derived.Test.YtnpjncbdmgdjnaaSlx
import Derived.Test.YtnpjncbdmgdjnaaRfn
namespace Sp
/-- As the program reckons it. -/
theorem cnt_div {n k : Nat} (hk : 0 < k) : cnt n k = if 0 < n % k then n / k + 1 else n / k := by
  have h := Nat.div_add_mod n k
  have hm := Nat.mod_lt n hk
  have hc : (n / k) * k + n % k = n := by rw [Nat.mul_comm]; exact h
  have h1 := cnt_lt (n := n) (k := k) (i := n / k) hk
  have h2 := cnt_lt (n := n) (k := k) (i := n / k + 1) hk
  rw [Nat.succ_mul] at h2
  by_cases h0 : 0 < n % k
  · rw [if_pos h0]; omega
  · rw [if_neg h0]
    have h3 : n / k ≠ 0 → n / k - 1 < cnt n k := fun hq => by
      refine (cnt_lt hk).2 ?_
      obtain ⟨q, hq'⟩ : ∃ q, n / k = q + 1 := ⟨n / k - 1, by omega⟩
      rw [hq', Nat.add_sub_cancel]
      rw [hq', Nat.succ_mul] at hc
      omega
    omega
theorem colsZ_no {s k : Int} (h : s < 0 ∨ k < 1) : colsZ s k = 0 := by
  unfold colsZ; rw [if_pos (by omega)]
end Sp
namespace Go.Proofs.Ytnpjncbdmgdjnaa
open Go.RowKit Go.Shelf Gw Pol
attribute [local go_sem] Oper.semAt_some

/-- Columns: the world stands. -/
theorem scols_same (s k : Int) (hs : (Lit.int .i64 s).wf = true) (hk : (Lit.int .i64 k).wf = true) (w : World) :
    Calls Try.prog 10 #[.int .i64 s, .int .i64 k] w fun e w' => e = .returned (.int .i64 (Sp.colsZ s k)) ∧ w' = w := by
  have hs' : s ≤ 9223372036854775807 := by
    have h2 : IntKind.i64.min ≤ s ∧ s ≤ 9223372036854775807 := by simpa [Lit.wf] using hs
    exact h2.2
  have hk' : k ≤ 9223372036854775807 := by
    have h2 : IntKind.i64.min ≤ k ∧ k ≤ 9223372036854775807 := by simpa [Lit.wf] using hk
    exact h2.2
  by_cases h : s < 0 ∨ k < 1
  · have HZ := Lib.hid (Sp.colsZ_no h)
    go_enter Try.func10, Try.ntmps10
    rcases h with h | h
    · go_wp2
      go_ret
      exact ⟨by rw [HZ.out]; rfl, rfl⟩
    · go_wp2
      all_goals (go_ret; exact ⟨by rw [HZ.out]; rfl, rfl⟩)
  · obtain ⟨n, rfl⟩ : ∃ n : Nat, s = (n : Int) := ⟨s.toNat, by omega⟩
    obtain ⟨m, rfl⟩ : ∃ m : Nat, k = (m : Int) := ⟨k.toNat, by omega⟩
    have hm : 0 < m := by omega
    have HZ := Lib.hid ((Sp.colsZ_nat n m).trans (congrArg (fun x : Nat => (x : Int)) (Sp.cnt_div hm)))
    have hq : (n : Int) / (m : Int) = ((n / m : Nat) : Int) := rfl
    have hr : (n : Int) % (m : Int) = ((n % m : Nat) : Int) := rfl
    have hqn : n / m ≤ n := Nat.div_le_self n m
    have hrn : n % m < m := Nat.mod_lt n hm
    by_cases h0 : 0 < n % m
    · rw [if_pos h0] at HZ
      have hqm : n / m + 1 ≤ n := by
        have h1 := Nat.div_add_mod n m
        have h2 : n / m ≤ m * (n / m) := Nat.le_mul_of_pos_left _ hm
        omega
      obtain ⟨q, hqe⟩ : ∃ q, q = n / m := ⟨_, rfl⟩
      obtain ⟨r, hre⟩ : ∃ r, r = n % m := ⟨_, rfl⟩
      rw [← hqe] at hq hqm HZ
      rw [← hre] at hr hrn h0
      clear hqe hre hqn
      go_enter Try.func10, Try.ntmps10
      go_wp2
      go_ret
      refine ⟨?_, rfl⟩
      rw [HZ.out]
      go_num
    · rw [if_neg h0] at HZ
      obtain ⟨q, hqe⟩ : ∃ q, q = n / m := ⟨_, rfl⟩
      obtain ⟨r, hre⟩ : ∃ r, r = n % m := ⟨_, rfl⟩
      rw [← hqe] at hq hqn HZ
      rw [← hre] at hr hrn h0
      clear hqe hre
      obtain rfl : r = 0 := by omega
      go_enter Try.func10, Try.ntmps10
      go_wp2
      go_ret
      refine ⟨?_, rfl⟩
      rw [HZ.out]
      go_num
theorem scols_any (s k : Int) (hs : (Lit.int .i64 s).wf = true) (hk : (Lit.int .i64 k).wf = true) (w : World) : Calls Try.prog 10 #[.int .i64 s, .int .i64 k] w fun e w' => e = .returned (.int .i64 (Sp.colsZ s k)) ∧ Below w.heap.size w w' :=
  (scols_same s k hs hk w).mono fun e w' h => ⟨h.1, by rw [h.2]; exact Below.refl _ _⟩
theorem wf_nat {n : Nat} (h : n ≤ 9223372036854775807) : (Lit.int .i64 (n : Int)).wf = true := by
  have h1 : IntKind.i64.min ≤ (n : Int) := by have : IntKind.i64.min = -9223372036854775808 := by decide
                                              omega
  simp [Lit.wf]
  exact ⟨h1, by omega⟩
theorem scols_nat (n k : Nat) (hn : n ≤ 9223372036854775807) (hk : k ≤ 9223372036854775807) (w : World) : Calls Try.prog 10 #[.int .i64 (n : Int), .int .i64 (k : Int)] w fun e w' => e = .returned (.int .i64 (Sp.cnt n k : Int)) ∧ w' = w :=
  (scols_same n k (wf_nat hn) (wf_nat hk) w).mono fun e w' h => ⟨by rw [← Sp.colsZ_nat]; exact h.1, h.2⟩

/-- Two blocks stand. -/
def KpT (b1 b2 : Nat) (W W' : World) : Prop := ∀ b, b = b1 ∨ b = b2 → W'.heap[b]? = W.heap[b]?
theorem KpT.refl (b1 b2 : Nat) (W : World) : KpT b1 b2 W W := fun _ _ => rfl
theorem KpT.trans {b1 b2 : Nat} {A B C : World} (h : KpT b1 b2 A B) (k : KpT b1 b2 B C) : KpT b1 b2 A C := fun b h1 => (k b h1).trans (h b h1)
theorem KpT.below {b1 b2 n : Nat} {A B : World} (h : Below n A B) (h1 : b1 < n) (h2 : b2 < n) : KpT b1 b2 A B := fun b h3 => h.block b (by omega)
theorem KpT.one {b1 b2 o : Nat} {A B : World} (h : KpT b1 b2 A B) : B.cell? ⟨b1, o, none⟩ = A.cell? ⟨b1, o, none⟩ := World.cell?_of_block (h b1 (.inl rfl))
theorem KpT.two {b1 b2 o : Nat} {A B : World} (h : KpT b1 b2 A B) : B.cell? ⟨b2, o, none⟩ = A.cell? ⟨b2, o, none⟩ := World.cell?_of_block (h b2 (.inr rfl))

theorem spieces_mk (A : Option Addr) (n c k : Nat) (w : World) :
    Calls Try.prog 14 #[.slice A n c, .int .i64 (k : Int)] w fun e w' =>
      e = .returned (.func (.func 16) #[] #[.pointer (some ⟨w.heap.size, 0, none⟩), .pointer (some ⟨w.heap.size + 1, 0, none⟩)]) ∧
      w' = (w.alloc (.cells #[.slice A n c] 22)).alloc (.cells #[.int .i64 (k : Int)] 3) := by
  go_enter Try.func14, Try.ntmps14
  go_wp2
  go_ret
  exact ⟨rfl, rfl⟩

/-- Piece i of k bytes of n, that lie at b, off. -/
abbrev sencs (b off n c k : Nat) (i : Nat) : Array Value := #[.int .i64 (i : Int), .slice (some ⟨b, off + i * k, none⟩) (min k (n - i * k)) (c - i * k)]
def SpRel (J : List Nat → World → Prop) (w : World) (bd bk b off n c k : Nat) (v i : Value) (wr : World) : Prop :=
  ∃ q : Nat, q ≤ Sp.cnt n k ∧ i = .int .i64 (q : Int) ∧ (q < Sp.cnt n k → v = .slice (some ⟨b, off + q * k, none⟩) (n - q * k) (c - q * k)) ∧ J (List.range q) wr ∧ KpT bd bk w wr
set_option maxRecDepth 100000 in
set_option maxHeartbeats 1000000 in
/-- The pieces come one by one. -/
theorem spieces_pre (m : Nat) (hm : 1 ≤ m) (bd bk b off n c k : Nat) (A : Option Addr) (hA : 0 < n → A = some ⟨b, off, none⟩) (hk : 0 < k) (hk2 : k ≤ 9223372036854775807) (hn : n ≤ 140737488355328) (hc : n ≤ c) (w : World)
    (h1 : w.cell? ⟨bd, 0, none⟩ = some (.slice A n c)) (h2 : w.cell? ⟨bk, 0, none⟩ = some (.int .i64 (k : Int))) :
    Gq.SeqPre m Try.prog 16 #[.pointer (some ⟨bd, 0, none⟩), .pointer (some ⟨bk, 0, none⟩)] (sencs b off n c k) (fun pre x _ => pre = List.range x ∧ x < Sp.cnt n k) (KpT bd bk) (fun xs => xs = List.range (Sp.cnt n k)) w := fun l J W hW hJ hY h0 => by
  have q0 : KpT bd bk w W := KpT.below hW (cell_lt h1) (cell_lt h2)
  have c1 := q0.one.trans h1
  have c2 := q0.two.trans h2
  have hcn := Sp.cnt_le n k
  have HC := Lib.hid (scols_nat n k (by omega) hk2 W)
  obtain ⟨R, hR⟩ : ∃ R, R = Sp.cnt n k := ⟨_, rfl⟩
  rw [← hR] at HC hcn
  have HR := Lib.hid hR
  clear hR
  refine callsIn_of_wp Try.func16 rfl trivial ?_ rfl
  simp only [Try.ntmps16, List.size_toArray, List.length_cons, List.length_nil, Nat.reduceAdd, Nat.reduceSub, Array.replicate_succ, Array.replicate_zero, List.push_toArray, List.append_toArray, List.nil_append, List.cons_append]
  gi_wp2_with fail
  refine ⟨trivial, ?_⟩
  refine (callsIn_wide.2 HC.out).mono ?_
  rintro e _ ⟨rfl, rfl⟩
  gi_wp2
  gi_loopw [4, 12] (SpRel J w bd bk b off n c k) (fun _ i _ => R - (intOf i).toNat)
  case atStart => exact ⟨0, Nat.zero_le _, rfl, fun h => by rw [hA ((Sp.cnt_lt hk).1 h |> fun h => by omega)]; simp, h0, q0⟩
  case round =>
    obtain ⟨q, hq, rfl, hv, hJs, hK⟩ := hrel
    rw [← HR.out] at hq hv
    by_cases hlt : q < R
    · have hv' := hv hlt
      subst hv'
      have hqn := (Sp.cnt_lt (n := n) hk).1 (by rw [← HR.out]; exact hlt)
      have HN := Lib.hid (Sp.cnt_lt (n := n) (i := q + 1) hk)
      rw [← HR.out, Nat.succ_mul] at HN
      have d2 := hK.two.trans h2
      obtain ⟨fn, tmps, assign, body, hy, hRd⟩ := hY (List.range q) q wr hJs ⟨rfl, by rw [← HR.out]; exact hlt⟩
      dsimp only [sencs] at hy
      obtain ⟨s, hs⟩ : ∃ s, s = q * k := ⟨_, rfl⟩
      obtain ⟨len, hlen⟩ : ∃ t, t = n - q * k := ⟨_, rfl⟩
      obtain ⟨cap, hcap⟩ : ∃ t, t = c - q * k := ⟨_, rfl⟩
      obtain ⟨o, ho⟩ : ∃ t, t = off + q * k := ⟨_, rfl⟩
      obtain ⟨p, hp⟩ : ∃ t, t = min k len := ⟨_, rfl⟩
      rw [← hlen, ← hcap, ← ho, ← hp] at hy
      rw [← hlen, ← hcap, ← ho]
      rw [← hs] at hqn hlen hcap ho HN
      obtain ⟨vr, hsl, hvr⟩ : ∃ vr, (∀ w', (Instr.sliceAt 22 (.slice (some ⟨b, o, none⟩) len cap) (some (.int .i64 (p : Int))) none none).run Try.prog w' = .ok vr w') ∧ (p < cap → vr = .slice (some ⟨b, o + p, none⟩) (len - p) (cap - p)) := by
        refine ⟨sliced (some ⟨b, o, none⟩) p len cap 1, fun w' => ?_, fun h => ?_⟩
        · rw [run_sliceAt_slice w' _ _ _ _ _ slice_elem, run_slice_l w' _ _ len cap slice_elem .i64 (p : Int) (by omega) (by omega), slice_one, Result.andThen_ok, Int.toNat_natCast]
        · unfold sliced
          rw [if_neg (by omega), Option.map_some, Nat.mul_one, addr_add]
      have HV := Lib.hid (show q + 1 < R → vr = .slice (some ⟨b, off + (q + 1) * k, none⟩) (n - (q + 1) * k) (c - (q + 1) * k) from fun h => by
        have h3 := HN.out.1 h
        have e1 : o + p = off + (s + k) := by omega
        have e2 : len - p = n - (s + k) := by omega
        have e3 : cap - p = c - (s + k) := by omega
        rw [hvr (by omega), Nat.succ_mul, ← hs, e1, e2, e3])
      have hcase : (p = k ∧ k ≤ len ∧ p ≤ cap) ∨ (p = len ∧ len < k ∧ p ≤ cap) := by omega
      clear hvr hp hs hlen hcap ho hqn
      rcases hcase with ⟨rfl, hkl, hpc⟩ | ⟨rfl, hkl, hpc⟩
      · gi_wp2_with fail
        refine hRd.mono ?_
        rintro e W3 ⟨rfl, hJ3, hK3⟩
        gi_wp2
        go_roundw
        case rel => exact ⟨q + 1, by rw [← HR.out]; omega, by go_num, fun h => HV.out (by rw [HR.out]; exact h), by rw [List.range_succ]; exact hJ3, hK.trans hK3⟩
        case measure => simp [intOf]; omega
      · gi_wp2_with fail
        refine hRd.mono ?_
        rintro e W3 ⟨rfl, hJ3, hK3⟩
        gi_wp2
        go_roundw
        case rel => exact ⟨q + 1, by rw [← HR.out]; omega, by go_num, fun h => HV.out (by rw [HR.out]; exact h), by rw [List.range_succ]; exact hJ3, hK.trans hK3⟩
        case measure => simp [intOf]; omega
    · obtain rfl : q = R := by omega
      gi_wp2
      go_end0
      exact ⟨⟨_, rfl⟩, _, by rw [HR.out], hJs⟩
end Go.Proofs.Ytnpjncbdmgdjnaa
