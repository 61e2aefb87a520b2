/- What the definition's own Same, Roots, Unlike and Agrees (package shamrockref01) do. -/
import Derived.Test.YtmcfkgjkfceomaaRpc
import Derived.Test.YtmcfkgjkfceomaaSam
namespace Go.Proofs.Ytmcfkgjkfceomaa
open Go.RowKit Go.Shelf Gw Pol
theorem rtimes' (A A' : Option Addr) (c c' n m : Nat) (p q : List Nat) (w : World) (hn : n = p.length) (hm : m = q.length) (hp : In w w.heap.size A c p) (hq : In w w.heap.size A' c' q) (hcm : p.length + q.length ≤ 140737488355328) :
    Calls Try.prog 38 #[.slice A n c, .slice A' m c'] w fun e w' => ∃ A2 c2, e = .returned (.slice A2 (tr (mul p q)).length c2) ∧ Gw.Own w' w.heap.size 5 A2 c2 (tr (mul p q)) ∧ Below w.heap.size w w' := by
  subst hn hm; exact rtimes_any A A' c c' p q w hp hq hcm
theorem radd' (A A' : Option Addr) (c c' n m : Nat) (p q : List Nat) (w : World) (hn : n = p.length) (hm : m = q.length) (hp : In w w.heap.size A c p) (hq : In w w.heap.size A' c' q) (hcm : p.length + q.length ≤ 140737488355328) :
    Calls Try.prog 37 #[.slice A n c, .slice A' m c'] w fun e w' => ∃ A2 c2, e = .returned (.slice A2 (tr (add p q)).length c2) ∧ Gw.Own w' w.heap.size 5 A2 c2 (tr (add p q)) ∧ Below w.heap.size w w' := by
  subst hn hm; exact radd_any A A' c c' p q w hp hq hcm
theorem reval' (A : Option Addr) (c n : Nat) (l : List Nat) (x : Nat) (hx : x < 256) (w : World) (B : Nat) (hn : n = l.length) (hI : In w B A c l) (hcm : l.length ≤ 140737488355328) :
    Calls Try.prog 18 #[.slice A n c, .int .u8 (x : Int)] w fun e w' => e = .returned (.int .u8 (ev x l : Int)) ∧ w = w' := by
  subst hn; exact reval_any A c l x hx w B hI hcm
theorem trim' (A : Option Addr) (c n : Nat) (l : List Nat) (w : World) (B : Nat) (hn : n = l.length) (hI : In w B A c l) (hB : B ≤ w.heap.size) (hcm : l.length ≤ 140737488355328) :
    Calls Try.prog 17 #[.slice A n c] w fun e w' => ∃ A' c', e = .returned (.slice A' (tr l).length c') ∧ Gw.Own w' w.heap.size 5 A' c' (tr l) ∧ Below w.heap.size w w' := by
  subst hn; exact trim_any A c l w B hI hB hcm
def RootsRel (w : World) (xs : List Nat) (v i : Value) (wr : World) : Prop :=
  ∃ (k : Nat) (A : Option Addr) (c : Nat), v = .slice A (k + 1) c ∧ i = .int .i64 (k : Int) ∧ k ≤ xs.length ∧ Gw.Own wr w.heap.size 5 A c (rt (xs.take k)) ∧ Below w.heap.size w wr
theorem rt_len_take {xs : List Nat} {k : Nat} (hk : k ≤ xs.length) : (rt (xs.take k)).length = k + 1 := by
  rw [(rt_top _).1, List.length_take, Nat.min_eq_left hk]
set_option maxRecDepth 100000 in
set_option maxHeartbeats 1000000 in
/-- The polynomial of some roots. -/
theorem rroots_any (A : Option Addr) (c : Nat) (xs : List Nat) (w : World) (hI : In w w.heap.size A c xs) (hcm : xs.length ≤ 70368744177664) :
    Calls Try.prog 35 #[.slice A xs.length c] w fun e w' => ∃ A2 c2, e = .returned (.slice A2 (rt xs).length c2) ∧ Gw.Own w' w.heap.size 5 A2 c2 (rt xs) ∧ Below w.heap.size w w' := by
  go_enter Try.func35, Try.ntmps35
  go_wp2
  go_loopw [3, 4] (RootsRel w xs) (fun _ i _ => xs.length - (intOf i).toNat)
  case atStart => exact ⟨0, some ⟨w.heap.size, 0, none⟩, 1, rfl, rfl, Nat.zero_le _, ⟨World.ownsRow_lit w #[.int .u8 1] 1 (Nat.le_refl _) (by simp [maxLen]) rfl, rt_bb _⟩, (Below.refl _ _).alloc (Nat.le_refl _) _⟩
  case round =>
    obtain ⟨k, Ao, co', rfl, rfl, hk, hown, hbel⟩ := hrel
    have hbs := hbel.size
    by_cases hkp : k < xs.length
    · obtain ⟨x, b, off, hx, hxb, rfl, hb, hcell⟩ := (hI.below hbel).sl.at_ hkp
      have HT := Lib.hid (show rt (xs.take (k + 1)) = tr (mul (rt (xs.take k)) [x, 1]) by rw [← take_snoc hx, rt_snoc])
      have HL := Lib.hid (rt_len_take (xs := xs) (k := k) hk)
      have HL2 := Lib.hid (rt_len_take (xs := xs) (k := k + 1) hkp)
      clear hx
      go_wp2_with fail
      refine (rtimes' Ao (some ⟨wr.heap.size, 0, none⟩) co' 2 (k + 1) 2 (rt (xs.take k)) [x, 1] _ HL.out.symm rfl (hown.alloc _).inn ⟨(Sl.two wr 5 x 1 hxb (by omega)).more (by simp), by simp, fun h => by cases h⟩ (by rw [HL.out]; simp; omega)).mono ?_
      rintro e w' ⟨A2, c2, rfl, hown2, hb2⟩
      rw [← HT.out] at hown2 ⊢
      rw [HL2.out]
      have hb3 := (hbel.alloc hbs (.cells #[.int .u8 (x : Int), .int .u8 1] 5)).trans (hb2.mono (by simp; omega))
      have hown3 := hown2.base (base' := w.heap.size) (by simp; omega)
      clear hown2 hb2
      go_wp2
      go_roundw
      case rel => exact ⟨k + 1, A2, c2, rfl, by go_num, by omega, hown3, hb3⟩
      case measure => simp [intOf]; omega
    · obtain rfl : k = xs.length := by omega
      have HT := Lib.hid (rt_len_take (xs := xs) (k := xs.length) (Nat.le_refl _))
      rw [List.take_length] at hown
      go_wp2
      go_ret
      exact ⟨Ao, co', by rw [(rt_top xs).1]; rfl, hown, hbel⟩

/-- No two of the first k are the same. -/
def UnTo (xs : List Nat) (k : Nat) : Prop := ∀ i j, i < k → j < i → co xs i ≠ co xs j
/-- Are all unlike? -/
def unB (xs : List Nat) : Bool := decide xs.Nodup
theorem unB_yes {xs : List Nat} (h : UnTo xs xs.length) : unB xs = true := by
  unfold unB; rw [decide_eq_true_eq]
  rw [List.nodup_iff_pairwise_ne, List.pairwise_iff_getElem]
  intro i j hi hj hij
  have := h j i hj hij
  rw [co_get hi, co_get hj] at this
  exact fun e => this e.symm
theorem unB_no {xs : List Nat} {i j : Nat} (hi : i < xs.length) (hj : j < i) (h : co xs i = co xs j) : unB xs = false := by
  unfold unB; rw [decide_eq_false_iff_not]
  intro hn
  rw [co_get hi, co_get (by omega)] at h
  have := (List.getElem_inj hn).1 h
  omega
set_option maxRecDepth 100000 in
set_option maxHeartbeats 1000000 in
theorem unlike_any (A : Option Addr) (c : Nat) (xs : List Nat) (w : World) (B : Nat) (hI : In w B A c xs) (hcm : xs.length ≤ 140737488355328) :
    Calls Try.prog 11 #[.slice A xs.length c] w fun e w' => e = .returned (.bool (unB xs)) ∧ ∃ n, w' = w.drewN n := by
  obtain ⟨hS, hc, hnil⟩ := hI
  go_enter Try.func11, Try.ntmps11
  go_wp2
  go_loopw [3] (fun i wr => ∃ k n : Nat, k ≤ xs.length ∧ i = .int .i64 (k : Int) ∧ UnTo xs k ∧ wr = w.drewN n) (fun i _ => xs.length - (intOf i).toNat)
  case atStart => exact ⟨0, 0, Nat.zero_le _, rfl, fun i j h => by omega, rfl⟩
  case round =>
    obtain ⟨k, n, hk, rfl, hun, rfl⟩ := hrel
    by_cases hkp : k < xs.length
    · obtain ⟨x, b, off, hx, hxb, rfl, hb, hcell⟩ := hS.at_ hkp
      have HX := Lib.hid (co_of hx)
      clear hx
      go_wp2
      go_loopw [4] (fun i wr => ∃ j n : Nat, j ≤ k ∧ i = .int .i64 (j : Int) ∧ (∀ m, m < j → co xs k ≠ co xs m) ∧ wr = w.drewN n) (fun i _ => k - (intOf i).toNat)
      case atStart => exact ⟨0, n, Nat.zero_le _, rfl, fun m h => by omega, rfl⟩
      case round =>
        obtain ⟨j, n2, hj, rfl, hne, rfl⟩ := hrel
        by_cases hjk : j < k
        · obtain ⟨y, b', off', hy, hyb, e', hb', hcell2⟩ := hS.at_ (k := j) (by omega)
          injection e' with e'
          injection e' with e1 e2
          subst e1 e2
          have HY := Lib.hid (co_of hy)
          clear hy
          have hjl : j < xs.length := by omega
          by_cases hxy : x = y
          · subst hxy
            have HN := Lib.hid (unB_no hkp hjk (HX.out.trans HY.out.symm))
            go_wp2
            go_quiet (fail)
            go_wp2
            go_ret
            exact ⟨by rw [HN.out]; rfl, n2 + nq, World.drewN_drewN _ _ _⟩
          · have hB : ((x : Int) == (y : Int)) = false := beq_eq_false_iff_ne.2 (by omega)
            go_wp2
            go_quiet (fail)
            go_wp2
            go_roundw
            case rel => exact ⟨j + 1, n2 + nq, by omega, by go_num, fun m hm => by
              by_cases e : m = j
              · subst e; rw [HX.out, HY.out]; exact hxy
              · exact hne m (by omega), rfl⟩
            case measure => simp [intOf]; omega
        · obtain rfl : j = k := by omega
          go_wp2
          go_roundw
          case rel => exact ⟨j + 1, n2, by omega, by go_num, fun i m hi hm => by
            by_cases e : i = j
            · subst e; exact hne m hm
            · exact hun i m (by omega) hm, rfl⟩
          case measure => simp [intOf]; omega
    · obtain rfl : k = xs.length := by omega
      have HN := Lib.hid (unB_yes hun)
      go_wp2
      go_ret
      exact ⟨by rw [HN.out]; rfl, n, rfl⟩

theorem reval_same (A : Option Addr) (c : Nat) (l : List Nat) (x : Nat) (hx : x < 256) (w : World) (B : Nat) (hI : In w B A c l) (hcm : l.length ≤ 140737488355328) :
    Calls Try.prog 18 #[.slice A l.length c, .int .u8 (x : Int)] w fun e w' => e = .returned (.int .u8 (ev x l : Int)) ∧ w' = w :=
  (reval_any A c l x hx w B hI hcm).mono fun _ _ h => ⟨h.1, h.2.symm⟩
theorem rinv_same (a : Nat) (ha : a < 256) (w : World) : Calls Try.prog 36 #[.int .u8 (a : Int)] w fun e w' => e = .returned (.int .u8 (Gf.inv a : Int)) ∧ w' = w :=
  (rinv_any a ha w).mono fun _ _ h => ⟨h.1, h.2.symm⟩
/-- At how many of the first k points has p the value? -/
def agrTo (p xs ys : List Nat) : Nat → Nat
  | 0 => 0
  | k + 1 => if ev (co xs k) p = co ys k then agrTo p xs ys k + 1 else agrTo p xs ys k
theorem agrTo_le (p xs ys : List Nat) (k : Nat) : agrTo p xs ys k ≤ k := by
  induction k with
  | zero => exact Nat.le_refl _
  | succ k ih => unfold agrTo; split <;> omega
set_option maxRecDepth 100000 in
set_option maxHeartbeats 1000000 in
theorem agrees_any (A A1 A2 : Option Addr) (c c1 c2 : Nat) (p xs ys : List Nat) (w : World) (B : Nat) (hp : In w B A c p) (hx : In w B A1 c1 xs) (hy : In w B A2 c2 ys) (hl : xs.length ≤ ys.length) (hcm : p.length ≤ 140737488355328) (hcm2 : xs.length ≤ 140737488355328) :
    Calls Try.prog 16 #[.slice A p.length c, .slice A1 xs.length c1, .slice A2 ys.length c2] w fun e w' => e = .returned (.int .i64 (agrTo p xs ys xs.length : Int)) ∧ ∃ n, w' = w.drewN n := by
  go_enter Try.func16, Try.ntmps16
  go_wp2
  go_loopw [7, 8] (fun s i wr => ∃ k n : Nat, k ≤ xs.length ∧ i = .int .i64 (k : Int) ∧ s = .int .i64 (agrTo p xs ys k : Int) ∧ wr = w.drewN n) (fun _ i _ => xs.length - (intOf i).toNat)
  case atStart => exact ⟨0, 0, Nat.zero_le _, rfl, rfl, rfl⟩
  case round =>
    obtain ⟨k, n, hk, rfl, rfl, hwr⟩ := hrel
    have hp' : In wr B A c p := by rw [hwr]; exact hp.drewN n
    have hx' : In wr B A1 c1 xs := by rw [hwr]; exact hx.drewN n
    have hy' : In wr B A2 c2 ys := by rw [hwr]; exact hy.drewN n
    have HW := Lib.hid hwr
    clear hwr hp hx hy
    have hag := agrTo_le p xs ys k
    by_cases hkp : k < xs.length
    · obtain ⟨x, b, off, hx1, hxb, rfl, hb, hcell⟩ := hx'.sl.at_ hkp
      obtain ⟨y, b2, off2, hy1, hyb, rfl, hb2, hcell2⟩ := hy'.sl.at_ (k := k) (by omega)
      have hky : k < ys.length := by omega
      have HX := Lib.hid (co_of hx1)
      have HY := Lib.hid (co_of hy1)
      clear hx1 hy1
      by_cases he : ev x p = y
      · have hB : ((ev x p : Int) == (y : Int)) = true := by rw [beq_iff_eq]; omega
        have HA := Lib.hid (show agrTo p xs ys (k + 1) = agrTo p xs ys k + 1 by rw [agrTo, if_pos (by rw [HX.out, HY.out]; exact he)])
        clear he
        go_wp2
        go_quiet ((go_at_call 18; exact Calls.quiet_of_same (reval_same A c p x hxb _ B (hp'.drewN _) hcm)))
        go_wp2
        go_roundw
        case rel => exact ⟨k + 1, n + nq, by omega, by go_num, by rw [HA.out]; rfl, by rw [HW.out, World.drewN_drewN]⟩
        case measure => simp [intOf]; omega
      · have hB : ((ev x p : Int) == (y : Int)) = false := beq_eq_false_iff_ne.2 (by omega)
        have HA := Lib.hid (show agrTo p xs ys (k + 1) = agrTo p xs ys k by rw [agrTo, if_neg (by rw [HX.out, HY.out]; exact he)])
        clear he
        go_wp2
        go_quiet ((go_at_call 18; exact Calls.quiet_of_same (reval_same A c p x hxb _ B (hp'.drewN _) hcm)))
        go_wp2
        go_roundw
        case rel => exact ⟨k + 1, n + nq, by omega, by go_num, by rw [HA.out], by rw [HW.out, World.drewN_drewN]⟩
        case measure => simp [intOf]; omega
    · obtain rfl : k = xs.length := by omega
      go_wp2
      go_ret
      exact ⟨rfl, n, HW.out⟩
end Go.Proofs.Ytmcfkgjkfceomaa
