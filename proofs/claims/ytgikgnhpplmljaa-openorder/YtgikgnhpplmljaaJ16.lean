import Derived.Test.YtgikgnhpplmljaaJ4
import Derived.Test.YtgikgnhpplmljaaJ6
import Derived.Test.YtgikgnhpplmljaaJ9
import Derived.Test.YtgikgnhpplmljaaJ11
import Derived.Test.YtgikgnhpplmljaaJ12
import Derived.Test.YtgikgnhpplmljaaJ15
section
/- What open's Open and At do. -/
namespace Sp
open Pol
open Go.Proofs.Ytgikgnhpplmljaa
theorem cat_docL {n k size : Nat} (hk : 0 < k) {P l : Nat → List Nat} (hl : ∀ i, i < cnt size k → l i = enc (P i) (secL n k)) : (cat l (cnt size k)).take size = docL n k size P := by
  have hlen : ∀ i, i < cnt size k → (l i).length = k := fun i hi => by rw [hl i hi, enc_len, secL_len]
  have hall := cnt_all (n := size) hk
  have hcl := cat_len hlen
  apply List.ext_getElem
  · rw [List.length_take, hcl, docL_len]; omega
  · intro i h1 h2
    have hi : i < size := by rw [docL_len] at h2; exact h2
    have hm := Nat.mod_lt i hk
    have hd : i / k < cnt size k := (cnt_lt hk).2 (by have := Nat.div_mul_le_self i k; omega)
    have he : i / k * k + i % k = i := by rw [Nat.mul_comm]; exact Nat.div_add_mod i k
    have h3 := cat_co hlen hd hm
    rw [he, hl _ hd] at h3
    have h4 : co (cat l (cnt size k)) i = (cat l (cnt size k))[i]'(by rw [hcl]; omega) := by simp [co, show i < (cat l (cnt size k)).length by rw [hcl]; omega]
    have h5 : co (enc (P (i / k)) (secL n k)) (i % k) = ev (n + 1 + i % k) (P (i / k)) := by
      rw [enc_at (by rw [secL_len]; exact hm)]
      simp [secL]
    rw [List.getElem_take, ← h4, h3, h5]
    simp [docL]
end Sp
namespace Go.Proofs.Ytgikgnhpplmljaa
open Go.RowKit Go.Shelf Gw Pol
theorem gfacts {n t k e : Nat} {r : Int} (h : goodB n t k e r = true) : 1 ≤ t ∧ 1 ≤ k ∧ t + k + 2 * e ≤ n ∧ n + k ≤ 255 := by
  have := of_decide_eq_true h; omega
/-- Columns, each in a row of its own; the table lies in block g. -/
def OpI (w6 : World) (g C k n : Nat) (P : Nat → List Nat) (i : Value) (wr : World) : Prop :=
  ∃ (q : Nat) (pa : Nat → Option Addr) (cp : Nat → Nat), q ≤ C ∧ i = .int .i64 (q : Int) ∧ Gw.Row wr g C (fun j => if j < q then .slice (pa j) k (cp j) else .slice none 0 0) ∧ (∀ j, j < q → Gw.Own wr (g + 1) 5 (pa j) (cp j) (enc (P j) (secL n k))) ∧ Below w6.heap.size w6 wr ∧ g < wr.heap.size
theorem OpI.done {wr : World} {g C k n : Nat} {P : Nat → List Nat} {pa : Nat → Option Addr} {cp : Nat → Nat} (h : Gw.Row wr g C (fun j => if j < C then .slice (pa j) k (cp j) else .slice none 0 0)) (hr : ∀ j, j < C → Gw.Own wr (g + 1) 5 (pa j) (cp j) (enc (P j) (secL n k))) (hg : g < wr.heap.size) :
    MIn wr wr.heap.size (some ⟨g, 0, none⟩) C C pa cp (fun i => enc (P i) (secL n k)) :=
  ⟨fun i hi => ⟨g, 0, rfl, hg, by
    have e := (h i hi).1
    simp only [if_pos hi] at e
    rw [Nat.zero_add, e, enc_len, secL_len], (hr i hi).inn⟩, Nat.le_refl _, fun h => by cases h⟩
theorem fnd_of_not {n t k e C R : Nat} {z : List Int} {l : Nat → List Nat} (h : ¬ Fno n t k e (C : Int) z R l) : ∃ P, Fnd n t k e C z R l P := by
  have h1 : Eno n t k e C z R l := Classical.byContradiction fun h1 => h (.inl h1)
  have h2 : ∀ c, c < C → ∃ p, Agc t k e z R l c p := fun c hc => Classical.byContradiction fun h2 => h (.inr ⟨c, by omega, fun p hp => h2 ⟨p, hp⟩⟩)
  obtain ⟨P, hP⟩ := agc_pick t k e z R l
  exact ⟨P, h1, fun c hc => by obtain ⟨p, hp⟩ := h2 c hc; rw [hP c p hp] at hp; exact hp⟩
set_option maxRecDepth 100000 in
set_option maxHeartbeats 1000000 in
theorem oopen_bad (n t k e r R : Nat) (si : Int) (_hg : goodB n t k e r = true) (_hw : (Lit.int .i64 si).wf = true) (hs : si < 0 ∨ 256 < si) (bf : Nat) (A A' : Option Addr) (cA cR N : Nat) (w : World) : Calls Try.prog 15 #[.pointer (some ⟨bf, 0, none⟩), pv n t k e r, .int .i64 si, .slice A N cA, .slice A' R cR] w fun en w' => (∃ A2 c2 A3 c3, en = .returned (.tuple #[.slice A2 0 c2, .slice A3 0 c3, .bool false])) ∧ Below w.heap.size w w' := by
  have hb1 : Below w.heap.size w (w.alloc (.cells #[.int .i64 (n : Int), .int .i64 (t : Int), .int .i64 (k : Int), .int .i64 (e : Int), .int .i64 (r : Int)] 23)) := (Below.refl _ w).alloc (Nat.le_refl _) _
  by_cases h0 : si < 0
  · have d0 : decide (si < 0) = true := decide_eq_true h0
    clear hs
    go_enter Try.func15, Try.ntmps15
    go_wp2
    go_ret3
    exact ⟨⟨_, _, _, _, rfl⟩, hb1⟩
  · have h1 : 256 < si := by omega
    have d0 : decide (si < 0) = false := decide_eq_false h0
    have d1 : decide (256 < si) = true := decide_eq_true h1
    clear hs
    go_enter Try.func15, Try.ntmps15
    go_wp2
    go_ret3
    exact ⟨⟨_, _, _, _, rfl⟩, hb1⟩
set_option maxRecDepth 100000 in
set_option maxHeartbeats 4000000 in
theorem oopen_any (n t k e r R size : Nat) (hg : goodB n t k e r = true) (bf : Nat) (A A' : Option Addr) (cA cR N : Nat) (z : List Int) (hN : N = z.length) (pa0 : Nat → Option Addr) (cp0 : Nat → Nat) (l : Nat → List Nat) (w : World) (hF : IsField w bf) (hI : InZ w w.heap.size A cA z) (hM : MIn w w.heap.size A' cR R pa0 cp0 l) (hs : size ≤ 256) (hNb : N ≤ 17592186043904) (hRb : R ≤ 5864062014634) : Calls Try.prog 15 #[.pointer (some ⟨bf, 0, none⟩), pv (n : Int) (t : Int) (k : Int) (e : Int) (r : Int), .int .i64 (size : Int), .slice A N cA, .slice A' R cR] w (OpAns n t k e size z R l w) := by
  obtain ⟨ht, hk, hm, hnk⟩ := gfacts hg
  clear hg
  obtain ⟨C, hC⟩ : ∃ C, C = Sp.cnt size k := ⟨_, rfl⟩
  have hCb : C ≤ 256 := by rw [hC]; exact Nat.le_trans (Sp.cnt_le size k) hs
  obtain ⟨w1, hw1⟩ : ∃ w1, w1 = w.alloc (.cells #[.int .i64 (n : Int), .int .i64 (t : Int), .int .i64 (k : Int), .int .i64 (e : Int), .int .i64 (r : Int)] 23) := ⟨_, rfl⟩
  have hb1 : Below w.heap.size w w1 := by rw [hw1]; exact (Below.refl _ w).alloc (Nat.le_refl _) _
  have HPB : Hid (Pbx w1 w.heap.size n t k e r) := Lib.hid (by rw [hw1]; exact Pbx.new w _ _ _ _ _ _)
  have HPL := Lib.hid HPB.out.lt
  have HB0 := Lib.hid hb1
  have HN := Lib.hid hN
  have HC := Lib.hid hC
  have HI := Lib.hid ((hI.below hb1).more hb1.size)
  have HM := Lib.hid ((hM.below hb1).more hb1.size)
  have HFL := Lib.hid (hF.below hb1 hF.lt)
  have d0 : decide ((size : Int) < 0) = false := decide_eq_false (by omega)
  have d1 : decide (256 < (size : Int)) = false := decide_eq_false (by omega)
  have hsi : ¬ ((256 : Int) < (size : Int)) := by omega
  unfold OpAns OpYes
  by_cases hFd : ∃ P, Fnd n t k e C z R l P
  · obtain ⟨P, hFd⟩ := hFd
    have HF := Lib.hid hFd
    obtain ⟨nw, hnw⟩ : ∃ nw, nw = (wrongL n z R l P C).length := ⟨_, rfl⟩
    have HNW := Lib.hid hnw
    clear hN hC hI hM hF hb1 hFd hnw
    go_enter Try.func15, Try.ntmps15
    go_wp2
    rw [← hw1]
    clear hw1
    rename_i KK hKK
    refine Gt.regionA [Gt.Is (.pointer (some ⟨bf, 0, none⟩)), Gt.Is (pv (n : Int) (t : Int) (k : Int) (e : Int) (r : Int)), Gt.Is (.int .i64 (size : Int)), Gt.Is (.pointer (some ⟨w.heap.size, 2, none⟩)), Gt.Is (.int .i64 (k : Int)), Gt.Is (.int .i64 (C : Int)), Gt.Is (.slice A N cA), Gt.Is (.slice A' R cR), T3Is C nw P (wrongL n z R l P C), T3Is C nw P (wrongL n z R l P C), MIs C P, JIs nw (wrongL n z R l P C), Gt.Is (.bool true), MIs C P, JIs nw (wrongL n z R l P C), Gt.Is (.bool true)] 69
      [⟨[], [0], none⟩, ⟨[], [6], none⟩, ⟨[], [2], none⟩, ⟨[], [6], none⟩, ⟨[(3, 28)], [], none⟩, ⟨[(2, 27), (4, 29)], [], none⟩, ⟨[], [3], none⟩, ⟨[], [4], none⟩, ⟨[(0, 25), (1, 26), (5, 30), (6, 31), (7, 32)], [], none⟩, ⟨[(8, 33)], [], none⟩, ⟨[(9, 24)], [], none⟩, ⟨[(9, 24)], [], none⟩, ⟨[(9, 24)], [], none⟩, ⟨[(10, 34)], [], none⟩, ⟨[(11, 35)], [], none⟩, ⟨[(12, 36)], [], none⟩]
      [(0, 25), (1, 26), (2, 27), (3, 28), (4, 29), (5, 30), (6, 31), (7, 32), (8, 33), (9, 24), (10, 34), (11, 35), (12, 36), (13, 13), (14, 11), (15, 12)] (by kernel_rfl) (by kernel_rfl) (by kernel_rfl) (by kernel_rfl) ?_ ?_ ?_
    · simp only [Gt.Monos]
      repeat' apply And.intro
      all_goals (first | exact trivial | exact Gt.Is.mono _ | exact T3Is.mono _ _ _ _ | exact Z3Is.mono | exact MIs.mono _ _ | exact JIs.mono _ _ | exact EIs.mono)
    · simp only [Gt.Obs]
      repeat' apply And.intro
      all_goals try exact trivial
      all_goals (
        intro a w5 hg
        have hg' : Below w1.heap.size w1 w5 := hg
        simp only [Gt.Pre, Gt.Kept, Gt.Guarded, Gt.tys, List.getD_cons_zero, List.getD_cons_succ, Gt.Is, Nat.zero_add, Nat.reduceAdd]
        intros
        try (refine ⟨fun _ => ?_, fun hne => absurd (by assumption) hne⟩))
      all_goals (first
        | exact Gt.ok_move rfl (by assumption)
        | exact Gt.ok_assign rfl (by assumption)
        | exact Gt.ok_pick rfl (by assumption) (by rw [if_pos rfl]; assumption)
        | (exact Gt.ok_load rfl (by assumption) (HPB.out.below hg' HPL.out).load rfl)
        | (have k5 := (HPB.out.below hg' HPL.out).c2
           refine Gt.ok_run ?_ rfl
           simp only [execOp, *]
           go_simp
           done)
        | (refine Gt.ok_call (f := 36) rfl #[.int .i64 (size : Int), .int .i64 (k : Int)] (by kernel_rfl) (by simp [*] <;> rfl) ((scols_nat size k (by omega) (by omega) w5).mono ?_)
           rintro en w6 ⟨rfl, rfl⟩
           rw [← HC.out]
           exact ⟨_, rfl, Below.refl _ _, rfl⟩)
        | (refine Gt.ok_call (f := 10) rfl #[.pointer (some ⟨bf, 0, none⟩), pv (n : Int) (t : Int) (k : Int) (e : Int) (r : Int), .int .i64 (C : Int), .slice A N cA, .slice A' R cR] (by kernel_rfl) (by simp [*] <;> rfl) ((ofind_in n t k e R C r (by omega) ht hk (by omega) (by omega) bf A A' cA cR N z HN.out pa0 cp0 l w5 (HFL.out.below hg' HFL.out.lt) ((HI.out.below hg').more hg'.size) ((HM.out.below hg').more hg'.size) (by omega) hNb hRb).mono ?_)
           rintro en w6 h6
           obtain ⟨v, h7, h8, h9⟩ := fd_yes h6 HF.out HNW.out
           exact ⟨v, h7, h9, h8⟩)
        | (obtain ⟨A6, c6, pa6, cp6, A7, c7, hv6, hM6, hJ6⟩ : T3Is C nw P (wrongL n z R l P C) (a.eval (.tmp 24)) w5 := by assumption
           refine Gt.ok_run (v := .slice A6 C c6) ?_ ⟨A6, c6, pa6, cp6, rfl, hM6⟩
           simp only [execOp, hv6]
           go_simp
           done)
        | (obtain ⟨A6, c6, pa6, cp6, A7, c7, hv6, hM6, hJ6⟩ : T3Is C nw P (wrongL n z R l P C) (a.eval (.tmp 24)) w5 := by assumption
           refine Gt.ok_run (v := .slice A7 nw c7) ?_ ⟨A7, c7, rfl, hJ6⟩
           simp only [execOp, hv6]
           go_simp
           done)
        | (obtain ⟨A6, c6, pa6, cp6, A7, c7, hv6, hM6, hJ6⟩ : T3Is C nw P (wrongL n z R l P C) (a.eval (.tmp 24)) w5 := by assumption
           refine Gt.ok_run (v := .bool true) ?_ rfl
           simp only [execOp, hv6]
           go_simp
           done)
        | (refine Gt.ok_run ?_ rfl
           simp only [execOp, *]
           go_simp
           done))
    · intro a w5 hg
      have hg' : Below w1.heap.size w1 w5 := hg
      simp only [Gt.Pre, Gt.tys, List.getD_cons_zero, List.getD_cons_succ, Gt.Is]
      intro h0 h1 h2 h3 h4 h5 h6 h7 h8 h9 h10 h11 h12 h13 h14 h15
      show KK _ _
      refine hKK _ _ ?_
      obtain ⟨_, _, _, _, _, _, h8, _⟩ := h8
      obtain ⟨_, _, _, _, _, _, h9, _⟩ := h9
      obtain ⟨_, _, _, _, h10, _⟩ := h10
      obtain ⟨_, _, h11, _⟩ := h11
      obtain ⟨Ap_, cp_, paP, cpP, h13, hMP⟩ := h13
      obtain ⟨Aw, cw, h14, hJW⟩ := h14
      simp only [Gt.puts, List.foldl_cons, List.foldl_nil, h0, h1, h2, h3, h4, h5, h6, h7, h8, h9, h10, h11, h12, h13, h14, h15]
      simp only [Act.put, List.setIfInBounds_toArray, List.set_cons_zero, List.set_cons_succ]
      have HB6 := Lib.hid hg'
      have HMP := Lib.hid hMP
      have HJW := Lib.hid hJW
      clear hMP hJW
      clear h0 h1 h2 h3 h4 h5 h6 h7 h8 h9 h10 h11 h12 h13 h14 h15 hg
      obtain ⟨w6, hw6⟩ : ∃ w6, w6 = w5 := ⟨_, rfl⟩
      rw [← hw6] at HB6 HMP HJW ⊢
      clear hw6 hg'
      have hs6 := HB6.out.size
      have HPR := Lib.hid (HPB.out.below HB6.out HPL.out)
      have HPX := Lib.hid HPR.out.lt
      have HSE := Lib.hid (dsec_in n k t e r (by omega) w6)
      obtain ⟨p0, p1, p2, p3, p4⟩ := HPR.out
      go_wp2_with fail
      refine HSE.out.mono ?_
      rintro en w7 ⟨As, cs, rfl, hos, hb7⟩
      have HB7 := Lib.hid (HB6.out.trans (hb7.mono hs6))
      have hs7 := hb7.size
      have HOS := Lib.hid hos
      have HM7 := Lib.hid ((HMP.out.below hb7).more hs7)
      have HJ7 := Lib.hid (HJW.out.below hb7)
      have HP7 := Lib.hid (HPR.out.below hb7 HPX.out)
      have HP7L := Lib.hid HP7.out.lt
      have hmk := run_make_row' (P := Try.prog) 25 36 (.slice none 0 0) 24 Try.underlying25 srow_info rfl .i64 .i64 C (by omega) (by omega)
      obtain ⟨w8, hw8⟩ : ∃ w8, w8 = w7.alloc (.cells (madeCells #[.slice none 0 0] C) 36) := ⟨_, rfl⟩
      have hs8 : w8.heap.size = w7.heap.size + 1 := by rw [hw8]; simp
      have HB8 : Hid (Below w7.heap.size w7 w8) := Lib.hid (by rw [hw8]; exact (Below.refl _ _).alloc (Nat.le_refl _) _)
      have HR8 : Hid (Gw.Row w8 w7.heap.size C (fun _ => .slice none 0 0)) := Lib.hid (by rw [hw8]; exact mrow w7 (.slice none 0 0) 36 C)
      have hcapP := HMP.out.cap
      clear p0 p1 p2 p3 p4 hb7 hos HSE
      go_wp2
      rw [← hw8]
      clear hw8 hmk
      go_loopw [46] (OpI w7 w7.heap.size C k n P) (fun i _ => C - (intOf i).toNat)
      case atStart => exact ⟨0, fun _ => none, fun _ => 0, Nat.zero_le _, rfl, HR8.out.congr (fun j _ => by rw [if_neg (Nat.not_lt_zero j)]), fun j hj => absurd hj (Nat.not_lt_zero j), HB8.out, by omega⟩
      case round =>
        obtain ⟨q, pa, cp, hq, rfl, hrow, hown, hbel, hgl⟩ := hrel
        have hsr := hbel.size
        by_cases hlt : q < C
        · have hqi : (q : Int) < (C : Int) := by omega
          obtain ⟨k1, k2⟩ := hrow q hlt
          simp only [Nat.lt_irrefl, if_false] at k1
          obtain ⟨b2, off2, hA2, hb2, hcell2, hrd⟩ := (HM7.out.below hbel).rd q hlt
          subst hA2
          obtain ⟨Ap, hAp⟩ : ∃ Ap, Ap = paP q := ⟨_, rfl⟩
          obtain ⟨cq, hcq⟩ : ∃ cq, cq = cpP q := ⟨_, rfl⟩
          rw [← hAp, ← hcq] at hrd hcell2
          obtain ⟨np, hnp⟩ : ∃ np, np = (P q).length := ⟨_, rfl⟩
          have hnpb : (P q).length ≤ 256 := by have := (HF.out.agd q hlt).deg; omega
          rw [← hnp] at hcell2
          have HEN := Lib.hid (encode' bf Ap As cq cs np k (P q) (secL n k) wr hnp (by rw [secL_len]) (HFL.out.below (HB7.out.trans (hbel.mono HB7.out.size)) HFL.out.lt) (hrd.more (by omega)) ((HOS.out.inn.below hbel).more hsr) (by omega) (by rw [secL_len]; omega))
          have HROW := Lib.hid hrow
          have HOWN := Lib.hid hown
          have HBEL := Lib.hid hbel
          have HC2 := Lib.hid hb2
          clear hrow hown hbel hrd hnp hAp hcq
          go_wp2_with fail
          refine HEN.out.mono ?_
          rintro en w9 ⟨A9, c9, rfl, ho9, hb9⟩
          rw [enc_len, secL_len]
          have hs9 := hb9.size
          have HR9 := Lib.hid (HROW.out.below hb9 hgl)
          obtain ⟨k3, k4⟩ := HR9.out q hlt
          simp only [Nat.lt_irrefl, if_false] at k3
          have HO9 := Lib.hid ho9
          have HFIN := Lib.hid (show OpI w7 w7.heap.size C k n P (.int .i64 ((q + 1 : Nat) : Int)) (w9.setCell ⟨w7.heap.size, q, none⟩ (.slice A9 k c9)) from
            ⟨q + 1, fun j => if j = q then A9 else pa j, fun j => if j = q then c9 else cp j, hlt, rfl, (HR9.out.set hlt (.slice A9 k c9)).congr (fun j hj => by
              by_cases e1 : j = q
              · subst e1; simp
              · simp only [if_neg e1]
                by_cases e2 : j < q
                · rw [if_pos e2, if_pos (by omega)]
                · rw [if_neg e2, if_neg (by omega)]), fun j hj => by
              by_cases e1 : j = q
              · subst e1
                simp only [if_true]
                exact (HO9.out.base (base' := w7.heap.size + 1) (by omega)).kt ((Kt.refl w7.heap.size (w7.heap.size + 1) _).set ⟨Nat.le_refl _, Nat.lt_succ_self _⟩ _) (Nat.le_refl _)
              · simp only [if_neg e1]
                exact ((HOWN.out j (by omega)).kept hb9).kt ((Kt.refl w7.heap.size (w7.heap.size + 1) _).set ⟨Nat.le_refl _, Nat.lt_succ_self _⟩ _) (Nat.le_refl _),
            (HBEL.out.trans (hb9.mono hsr)).setCell (p := ⟨w7.heap.size, q, none⟩) (Nat.le_refl _) _, by simp only [World.setCell, Array.size_modify]; omega⟩)
          clear k1 k2 ho9 hb9
          go_wp2
          go_roundw
          case rel => exact HFIN.out
          case measure => simp [intOf]; omega
        · obtain rfl : q = C := by omega
          have HMD := Lib.hid (OpI.done hrow hown hgl)
          have HFB := Lib.hid (HB7.out.trans (hbel.mono HB7.out.size))
          have HJN := Lib.hid (sjoin_yes (some ⟨w7.heap.size, 0, none⟩) q q k size pa cp (fun i => enc (P i) (secL n k)) wr HMD.out HC.out (by omega) (by omega) (fun i _ => by rw [enc_len, secL_len]) (Nat.le_trans (Nat.mul_le_mul hCb (show k ≤ 255 by omega)) (by decide)))
          have HDC := Lib.hid (show (Sp.cat (fun i => enc (P i) (secL n k)) q).take size = docL n k size P by rw [HC.out]; exact Sp.cat_docL (by omega) (fun i _ => rfl))
          obtain ⟨p0, p1, p2, p3, p4⟩ := HP7.out.below hbel HP7L.out
          have HJX := Lib.hid (HJ7.out.below hbel)
          clear hrow hown hbel
          go_wp2_with fail
          refine HJN.out.mono ?_
          rintro en w9 ⟨A9, c9, rfl, hi9, hb9⟩
          rw [HDC.out] at hi9
          have HI9 := Lib.hid hi9
          have HJ9 := Lib.hid (HJX.out.below hb9)
          have HB9 := Lib.hid ((HB0.out.trans (HFB.out.mono HB0.out.size)).trans (hb9.mono (Nat.le_trans HB0.out.size HFB.out.size)))
          clear hi9 hb9 p0 p1 p2 p3 p4
          go_wp2
          go_ret3
          exact ⟨.inl ⟨P, _, _, _, _, by rw [← HC.out, ← HNW.out]; rfl, by rw [← HC.out]; exact HF.out, HI9.out, by rw [← HC.out]; exact HJ9.out⟩, HB9.out⟩
      
  · have HF := Lib.hid hFd
    have HFN := Lib.hid (show Fno n t k e ((Sp.cnt size k : Nat) : Int) z R l from by
      rw [← hC]
      exact Classical.byContradiction fun h => hFd (fnd_of_not h))
    clear hN hC hI hM hF hb1 hFd
    go_enter Try.func15, Try.ntmps15
    go_wp2
    rw [← hw1]
    clear hw1
    rename_i KK hKK
    refine Gt.regionA [Gt.Is (.pointer (some ⟨bf, 0, none⟩)), Gt.Is (pv (n : Int) (t : Int) (k : Int) (e : Int) (r : Int)), Gt.Is (.int .i64 (size : Int)), Gt.Is (.pointer (some ⟨w.heap.size, 2, none⟩)), Gt.Is (.int .i64 (k : Int)), Gt.Is (.int .i64 (C : Int)), Gt.Is (.slice A N cA), Gt.Is (.slice A' R cR), Z3Is, Z3Is, EIs, EIs, Gt.Is (.bool false), EIs, EIs, Gt.Is (.bool false)] 69
      [⟨[], [0], none⟩, ⟨[], [6], none⟩, ⟨[], [2], none⟩, ⟨[], [6], none⟩, ⟨[(3, 28)], [], none⟩, ⟨[(2, 27), (4, 29)], [], none⟩, ⟨[], [3], none⟩, ⟨[], [4], none⟩, ⟨[(0, 25), (1, 26), (5, 30), (6, 31), (7, 32)], [], none⟩, ⟨[(8, 33)], [], none⟩, ⟨[(9, 24)], [], none⟩, ⟨[(9, 24)], [], none⟩, ⟨[(9, 24)], [], none⟩, ⟨[(10, 34)], [], none⟩, ⟨[(11, 35)], [], none⟩, ⟨[(12, 36)], [], none⟩]
      [(0, 25), (1, 26), (2, 27), (3, 28), (4, 29), (5, 30), (6, 31), (7, 32), (8, 33), (9, 24), (10, 34), (11, 35), (12, 36), (13, 13), (14, 11), (15, 12)] (by kernel_rfl) (by kernel_rfl) (by kernel_rfl) (by kernel_rfl) ?_ ?_ ?_
    · simp only [Gt.Monos]
      repeat' apply And.intro
      all_goals (first | exact trivial | exact Gt.Is.mono _ | exact T3Is.mono _ _ _ _ | exact Z3Is.mono | exact MIs.mono _ _ | exact JIs.mono _ _ | exact EIs.mono)
    · simp only [Gt.Obs]
      repeat' apply And.intro
      all_goals try exact trivial
      all_goals (
        intro a w5 hg
        have hg' : Below w1.heap.size w1 w5 := hg
        simp only [Gt.Pre, Gt.Kept, Gt.Guarded, Gt.tys, List.getD_cons_zero, List.getD_cons_succ, Gt.Is, Nat.zero_add, Nat.reduceAdd]
        intros
        try (refine ⟨fun _ => ?_, fun hne => absurd (by assumption) hne⟩))
      all_goals (first
        | exact Gt.ok_move rfl (by assumption)
        | exact Gt.ok_assign rfl (by assumption)
        | exact Gt.ok_pick rfl (by assumption) (by rw [if_pos rfl]; assumption)
        | (exact Gt.ok_load rfl (by assumption) (HPB.out.below hg' HPL.out).load rfl)
        | (have k5 := (HPB.out.below hg' HPL.out).c2
           refine Gt.ok_run ?_ rfl
           simp only [execOp, *]
           go_simp
           done)
        | (refine Gt.ok_call (f := 36) rfl #[.int .i64 (size : Int), .int .i64 (k : Int)] (by kernel_rfl) (by simp [*] <;> rfl) ((scols_nat size k (by omega) (by omega) w5).mono ?_)
           rintro en w6 ⟨rfl, rfl⟩
           rw [← HC.out]
           exact ⟨_, rfl, Below.refl _ _, rfl⟩)
        | (refine Gt.ok_call (f := 10) rfl #[.pointer (some ⟨bf, 0, none⟩), pv (n : Int) (t : Int) (k : Int) (e : Int) (r : Int), .int .i64 (C : Int), .slice A N cA, .slice A' R cR] (by kernel_rfl) (by simp [*] <;> rfl) ((ofind_in n t k e R C r (by omega) ht hk (by omega) (by omega) bf A A' cA cR N z HN.out pa0 cp0 l w5 (HFL.out.below hg' HFL.out.lt) ((HI.out.below hg').more hg'.size) ((HM.out.below hg').more hg'.size) (by omega) hNb hRb).mono ?_)
           rintro en w6 h6
           obtain ⟨v, h7, h8, h9⟩ := fd_no h6 HF.out
           exact ⟨v, h7, h9, h8⟩)
        | (obtain ⟨A6, c6, A7, c7, hv6⟩ : Z3Is (a.eval (.tmp 24)) w5 := by assumption
           refine Gt.ok_run (v := .slice A6 0 c6) ?_ ⟨A6, c6, rfl⟩
           simp only [execOp, hv6]
           go_simp
           done)
        | (obtain ⟨A6, c6, A7, c7, hv6⟩ : Z3Is (a.eval (.tmp 24)) w5 := by assumption
           refine Gt.ok_run (v := .slice A7 0 c7) ?_ ⟨A7, c7, rfl⟩
           simp only [execOp, hv6]
           go_simp
           done)
        | (obtain ⟨A6, c6, A7, c7, hv6⟩ : Z3Is (a.eval (.tmp 24)) w5 := by assumption
           refine Gt.ok_run (v := .bool false) ?_ rfl
           simp only [execOp, hv6]
           go_simp
           done)
        | (refine Gt.ok_run ?_ rfl
           simp only [execOp, *]
           go_simp
           done))
    · intro a w5 hg
      have hg' : Below w1.heap.size w1 w5 := hg
      simp only [Gt.Pre, Gt.tys, List.getD_cons_zero, List.getD_cons_succ, Gt.Is]
      intro h0 h1 h2 h3 h4 h5 h6 h7 h8 h9 h10 h11 h12 h13 h14 h15
      show KK _ _
      refine hKK _ _ ?_
      obtain ⟨_, _, _, _, h8⟩ := h8
      obtain ⟨_, _, _, _, h9⟩ := h9
      obtain ⟨_, _, h10⟩ := h10
      obtain ⟨_, _, h11⟩ := h11
      obtain ⟨_, _, h13⟩ := h13
      obtain ⟨_, _, h14⟩ := h14
      simp only [Gt.puts, List.foldl_cons, List.foldl_nil, h0, h1, h2, h3, h4, h5, h6, h7, h8, h9, h10, h11, h12, h13, h14, h15]
      simp only [Act.put, List.setIfInBounds_toArray, List.set_cons_zero, List.set_cons_succ]
      have HB6 := Lib.hid hg'
      clear h0 h1 h2 h3 h4 h5 h6 h7 h8 h9 h10 h11 h12 h13 h14 h15 hg
      obtain ⟨w6, hw6⟩ : ∃ w6, w6 = w5 := ⟨_, rfl⟩
      rw [← hw6] at HB6 ⊢
      clear hw6 hg'
      go_wp2
      go_ret3
      exact ⟨.inr ⟨HFN.out, _, _, _, _, rfl⟩, HB0.out.trans (HB6.out.mono HB0.out.size)⟩
      
set_option maxRecDepth 100000 in
set_option maxHeartbeats 1000000 in
theorem oat_bad (n t k e r R C : Nat) (ti : Int) (_hg : goodB n t k e r = true) (_hw : (Lit.int .i64 ti).wf = true) (ht : ti < 0 ∨ (n : Int) ≤ ti) (bf : Nat) (A A' : Option Addr) (cA cR N : Nat) (z : List Int) (_hN : N = z.length) (pa : Nat → Option Addr) (cp : Nat → Nat) (l : Nat → List Nat) (w : World) (_hF : IsField w bf) (_hI : InZ w w.heap.size A cA z) (_hM : MIn w w.heap.size A' cR R pa cp l) (_hC : C ≤ 4096) (_hNb : N ≤ 17592186043904) (_hRb : R ≤ 5864062014634) : Calls Try.prog 17 #[.pointer (some ⟨bf, 0, none⟩), pv n t k e r, .int .i64 (C : Int), .slice A N cA, .slice A' R cR, .int .i64 ti] w fun en w' => (∃ A2 c2, en = .returned (.tuple #[.slice A2 0 c2, .bool false])) ∧ Below w.heap.size w w' := by
  have hpb := Pbx.new w 23 n t k e r
  have hb1 : Below w.heap.size w (w.alloc (.cells #[.int .i64 (n : Int), .int .i64 (t : Int), .int .i64 (k : Int), .int .i64 (e : Int), .int .i64 (r : Int)] 23)) := (Below.refl _ w).alloc (Nat.le_refl _) _
  have HH := Lib.hid (oholds_any n t k e r ti false (decide_eq_false (by omega)).symm (w.alloc (.cells #[.int .i64 (n : Int), .int .i64 (t : Int), .int .i64 (k : Int), .int .i64 (e : Int), .int .i64 (r : Int)] 23)))
  obtain ⟨p0, p1, p2, p3, p4⟩ := hpb
  clear ht
  go_enter Try.func17, Try.ntmps17
  go_wp2_with fail
  refine HH.out.mono ?_
  rintro en w2 ⟨rfl, hb2⟩
  have HB := Lib.hid (hb1.trans (hb2.mono hb1.size))
  clear hb1 hb2 p0 p1 p2 p3 p4 HH
  go_wp2
  go_ret2
  exact ⟨⟨_, _, rfl⟩, HB.out⟩
def AtI (w4 : World) (g C x : Nat) (P : Nat → List Nat) (i : Value) (wr : World) : Prop :=
  ∃ q : Nat, q ≤ C ∧ i = .int .i64 (q : Int) ∧ Gw.Own wr g 5 (some ⟨g, 0, none⟩) C (fp (fun j => ev x (P j)) C q) ∧ Below w4.heap.size w4 wr
set_option maxRecDepth 100000 in
set_option maxHeartbeats 2000000 in
theorem oat_any (n t k e r R C g : Nat) (hg : goodB n t k e r = true) (hgn : g < n) (bf : Nat) (A A' : Option Addr) (cA cR N : Nat) (z : List Int) (hN : N = z.length) (pa : Nat → Option Addr) (cp : Nat → Nat) (l : Nat → List Nat) (w : World) (hF : IsField w bf) (hI : InZ w w.heap.size A cA z) (hM : MIn w w.heap.size A' cR R pa cp l) (hC : C ≤ 4096) (hNb : N ≤ 17592186043904) (hRb : R ≤ 5864062014634) : Calls Try.prog 17 #[.pointer (some ⟨bf, 0, none⟩), pv n t k e r, .int .i64 (C : Int), .slice A N cA, .slice A' R cR, .int .i64 (g : Int)] w (AtAns n t k e C g z R l w) := by
  obtain ⟨ht, hk, hm, hnk⟩ := gfacts hg
  clear hg
  obtain ⟨w1, hw1⟩ : ∃ w1, w1 = w.alloc (.cells #[.int .i64 (n : Int), .int .i64 (t : Int), .int .i64 (k : Int), .int .i64 (e : Int), .int .i64 (r : Int)] 23) := ⟨_, rfl⟩
  have hb1 : Below w.heap.size w w1 := by rw [hw1]; exact (Below.refl _ w).alloc (Nat.le_refl _) _
  have HPB : Hid (Pbx w1 w.heap.size n t k e r) := Lib.hid (by rw [hw1]; exact Pbx.new w _ _ _ _ _ _)
  have HPL := Lib.hid HPB.out.lt
  have HB0 := Lib.hid hb1
  have HN := Lib.hid hN
  have HI := Lib.hid ((hI.below hb1).more hb1.size)
  have HM := Lib.hid ((hM.below hb1).more hb1.size)
  have HFL := Lib.hid (hF.below hb1 hF.lt)
  have HH := Lib.hid (oholds_any n t k e r g true (decide_eq_true (by omega)).symm w1)
  obtain ⟨p0, p1, p2, p3, p4⟩ := HPB.out
  rw [hw1] at p0 p1 p2 p3 p4
  clear hN hI hM hF hb1
  unfold AtAns
  go_enter Try.func17, Try.ntmps17
  go_wp2_with fail
  rw [← hw1]
  refine HH.out.mono ?_
  rintro en w2 ⟨rfl, hb2⟩
  have HB2 := Lib.hid hb2
  have HP2 := Lib.hid (HPB.out.below hb2 HPL.out)
  have HFI := Lib.hid (ofind_in n t k e R C r (by omega) ht hk (by omega) (by omega) bf A A' cA cR N z HN.out pa cp l w2 (HFL.out.below hb2 HFL.out.lt) ((HI.out.below hb2).more hb2.size) ((HM.out.below hb2).more hb2.size) hC hNb hRb)
  clear p0 p1 p2 p3 p4 hb2 hw1 HH
  obtain ⟨p0, p1, p2, p3, p4⟩ := HP2.out
  go_wp2_with fail
  refine HFI.out.mono ?_
  rintro en w3 ⟨⟨P, A2, c2, pa2, cp2, A3, c3, rfl, hf, hm2, _⟩ | ⟨hf, A2, c2, A3, c3, rfl⟩, hb3⟩
  rotate_left
  · have HFN := Lib.hid hf
    have HB3 := Lib.hid ((HB0.out.trans (HB2.out.mono HB0.out.size)).trans (hb3.mono (Nat.le_trans HB0.out.size HB2.out.size)))
    clear p0 p1 p2 p3 p4 hb3 hf HFI
    go_wp2
    go_ret2
    exact ⟨.inr ⟨HFN.out, _, _, rfl⟩, HB3.out⟩
  have HF := Lib.hid hf
  have HB3 := Lib.hid (HB2.out.trans (hb3.mono HB2.out.size))
  have HM3 := Lib.hid hm2
  have hcapP := hm2.cap
  have hs3 := HB3.out.size
  have HPT := Lib.hid (dpoint_nat g (g + 1) (by omega) rfl w3)
  have hmk := run_make_row' (P := Try.prog) 36 5 (.int .u8 0) 1 Try.underlying36 pbyte_info rfl .i64 .i64 C (by omega) (by omega)
  obtain ⟨x, hx⟩ : ∃ x, x = g + 1 := ⟨_, rfl⟩
  rw [← hx] at HPT
  have hxb : x < 256 := by omega
  have HX := Lib.hid hx
  obtain ⟨w4, hw4⟩ : ∃ w4, w4 = w3.alloc (.cells (madeCells #[.int .u8 0] C) 5) := ⟨_, rfl⟩
  have hO := Own.made w3 5 C (by omega)
  rw [← fp_zero (fun j => ev x (P j)) C, ← hw4] at hO
  have hB : Below w3.heap.size w3 w4 := by rw [hw4]; exact (Below.refl _ _).alloc (Nat.le_refl _) _
  clear p0 p1 p2 p3 p4 hb3 hf hm2 HFI hx
  go_wp2_with fail
  refine HPT.out.mono ?_
  rintro en w3 ⟨rfl, rfl⟩
  go_wp2
  rw [← hw4]
  clear hw4 hmk HPT
  go_loopw [44] (AtI w3 w3.heap.size C x P) (fun i _ => C - (intOf i).toNat)
  case atStart => exact ⟨0, Nat.zero_le _, rfl, hO, hB⟩
  case round =>
    clear hO hB
    obtain ⟨q, hq, rfl, hown, hbel⟩ := hrel
    by_cases hlt : q < C
    · have hqi : (q : Int) < (C : Int) := by omega
      obtain ⟨b2, off2, hA2, hb2, hcell2, hrd⟩ := (HM3.out.below hbel).rd q hlt
      subst hA2
      obtain ⟨Ap, hAp⟩ : ∃ Ap, Ap = pa2 q := ⟨_, rfl⟩
      obtain ⟨cq, hcq⟩ : ∃ cq, cq = cp2 q := ⟨_, rfl⟩
      rw [← hAp, ← hcq] at hrd hcell2
      obtain ⟨np, hnp⟩ : ∃ np, np = (P q).length := ⟨_, rfl⟩
      have hnpb : (P q).length ≤ 256 := by have := (HF.out.agd q hlt).deg; omega
      rw [← hnp] at hcell2
      have HEV := Lib.hid (peval' bf Ap cq np (P q) x hnp hxb wr (HFL.out.below (HB3.out.trans (hbel.mono HB3.out.size)) HFL.out.lt) (hrd.more hbel.size) (by omega))
      have HOWN := Lib.hid hown
      have HBEL := Lib.hid hbel
      have hyb : ev x (P q) < 256 := by
        exact enc_bb (HF.out.agd q hlt).bb [x] _ (by simp [enc])
      obtain ⟨y, hy⟩ : ∃ y, y = ev x (P q) := ⟨_, rfl⟩
      rw [← hy] at HEV hyb
      have HY := Lib.hid hy
      clear hown hbel hrd hnp hAp hcq hy
      go_wp2_with fail
      refine HEV.out.mono ?_
      rintro en w9 ⟨rfl, hb9⟩
      have hown9 := (HOWN.out.kept hb9)
      have hc := hown9.cell (k := q) (by rw [fp_len]; exact hlt)
      have hf := hown9.frozen q
      have HO := Lib.hid (hown9.put (k := q) (by rw [fp_len]; exact hlt) (y := y) hyb)
      rw [fp_set (f := fun j => ev x (P j)) HY.out] at HO
      have HB := Lib.hid ((HBEL.out.trans (hb9.mono HBEL.out.size)).setCell (p := ⟨w3.heap.size, q, none⟩) (Nat.le_refl _) (.int .u8 (y : Int)))
      clear hown9 hb9
      go_wp2
      go_roundw
      case rel => exact ⟨q + 1, hlt, by go_num, HO.out, HB.out⟩
      case measure => simp [intOf]; omega
    · obtain rfl : q = C := by omega
      rw [fp_all] at hown
      have HO := Lib.hid hown
      have HFB := Lib.hid ((HB0.out.trans (HB3.out.mono HB0.out.size)).trans (hbel.mono (Nat.le_trans HB0.out.size HB3.out.size)))
      clear hown hbel
      go_wp2
      go_ret2
      exact ⟨.inl ⟨P, _, _, rfl, HF.out, by unfold shRow; rw [← HX.out]; exact HO.out.inn⟩, HFB.out⟩
end Go.Proofs.Ytgikgnhpplmljaa
end
section
/- open: the contracts that the walks of layer 11 stand on (Opo holds those of Open and At). -/
namespace Go.Proofs.Ytgikgnhpplmljaa
open Go.RowKit Go.Shelf Gw Pol
theorem ofind_any (n t k e r R C : Nat) (hg : goodB n t k e r = true) (bf : Nat) (A A' : Option Addr) (cA cR N : Nat) (z : List Int) (hN : N = z.length) (pa : Nat → Option Addr) (cp : Nat → Nat) (l : Nat → List Nat) (w : World) (hF : IsField w bf) (hI : InZ w w.heap.size A cA z) (hM : MIn w w.heap.size A' cR R pa cp l) (hC : C ≤ 4096) (hNb : N ≤ 17592186043904) (hRb : R ≤ 5864062014634) : Calls Try.prog 10 #[.pointer (some ⟨bf, 0, none⟩), pv n t k e r, .int .i64 (C : Int), .slice A N cA, .slice A' R cR] w (FdAns n t k e C z R l w) := by
  obtain ⟨ht, hk, hm, hnk⟩ := gfacts hg
  exact ofind_in n t k e R C r (by omega) ht hk (by omega) (by omega) bf A A' cA cR N z hN pa cp l w hF hI hM hC hNb hRb
end Go.Proofs.Ytgikgnhpplmljaa
end
section
/- What the statements' own answers (package shamrocklaw11) does: it returns true. -/
namespace Go.Proofs.Ytgikgnhpplmljaa
open Go.RowKit Go.Shelf Gw Pol
set_option maxRecDepth 100000 in
set_option maxHeartbeats 2000000 in
theorem answers_any (w : World) : Calls Try.prog 9 #[] w fun e w' => e = .returned (.bool true) ∧ Below w.heap.size w w' := by
  have hg : goodB 5 1 1 1 9 = true := by decide
  obtain ⟨w1, hw1⟩ : ∃ w1, w1 = w.alloc (.cells #[.int .i64 5, .int .i64 1, .int .i64 1, .int .i64 1, .int .i64 9] 23) := ⟨_, rfl⟩
  have hpb1 := Pbx.new w 23 5 1 1 1 9
  have hb1 : Below w.heap.size w w1 := by rw [hw1]; exact (Below.refl _ w).alloc (Nat.le_refl _) _
  rw [← hw1] at hpb1
  have HPB := Lib.hid hpb1
  have HPL := Lib.hid hpb1.lt
  have HB1 := Lib.hid hb1
  clear hpb1 hb1
  go_enter Try.func9, Try.ntmps9
  go_wp2_with fail
  rw [← hw1]
  clear hw1
  refine (new_any _).mono ?_
  rintro _ w3 ⟨rfl, hF3, hb3⟩
  have HP3 := Lib.hid (HPB.out.below hb3 HPL.out)
  have HB3 := Lib.hid (HB1.out.trans (hb3.mono HB1.out.size))
  have HF3 := Lib.hid hF3
  obtain ⟨hz5, hm5, hb5⟩ := lit5 w3 3 5 36
  have HZ5 := Lib.hid hz5
  have HM5 := Lib.hid hm5
  have HB5 := Lib.hid hb5
  obtain ⟨c0, c1, c2, c3, c4⟩ := HP3.out
  clear hb3 hF3 hz5 hm5 hb5
  go_wp2_with fail
  refine (oopen_any 5 1 1 1 9 5 1 hg w1.heap.size _ _ 5 5 5 [0, 1, 2, 3, 4] rfl _ _ l11 _ (HF3.out.below HB5.out HF3.out.lt) HZ5.out HM5.out (by omega) (by omega) (by omega)).mono ?_
  rintro en w5 ⟨(⟨P, A2, q2, A3, q3, he, hfnd, hd, hj⟩ | ⟨hno, _⟩), hb6⟩
  rotate_left
  · exact absurd hno a11_yes.not
  have hcnt : Sp.cnt 1 1 = 1 := by decide
  rw [hcnt] at he hfnd hj
  have hP : ∀ c, c < 1 → P c = [7] := fun c hc => hfnd.alone a11_yes hc
  rw [wrongL_congr hP, a11_wrong] at he hj
  rw [docL_congr (by omega) (by rw [hcnt]; exact hP), a11_doc] at hd
  subst he
  have HB35 := Lib.hid (HB5.out.trans (hb6.mono HB5.out.size))
  have HP5 := Lib.hid (HP3.out.below HB35.out HP3.out.lt)
  have HF5 := Lib.hid (HF3.out.below HB35.out HF3.out.lt)
  have HB5w := Lib.hid (HB3.out.trans (HB35.out.mono HB3.out.size))
  have HD := Lib.hid hd
  have HJ := Lib.hid hj
  clear c0 c1 c2 c3 c4 hb6 hfnd hP hcnt hd hj
  obtain ⟨hz7, hm7, hb7⟩ := lit3 w5 3 5 36
  have HZ7 := Lib.hid hz7
  have HM7 := Lib.hid hm7
  have HB7 := Lib.hid hb7
  obtain ⟨c0, c1, c2, c3, c4⟩ := HP5.out
  clear hz7 hm7 hb7
  go_wp2_with fail
  refine (oopen_any 5 1 1 1 9 3 1 hg w1.heap.size _ _ 3 3 3 [0, 1, 2] rfl _ _ l11 _ (HF5.out.below HB7.out HF5.out.lt) HZ7.out HM7.out (by omega) (by omega) (by omega)).mono ?_
  rintro en w7 ⟨(⟨P', A4, q4, A5, q5, he, hfnd, hd, hj⟩ | ⟨_, A4, q4, A5, q5, rfl⟩), hb8⟩
  · exact absurd a11_no hfnd.not
  have HB57 := Lib.hid (HB7.out.trans (hb8.mono HB7.out.size))
  have HB7w := Lib.hid (HB5w.out.trans (HB57.out.mono HB5w.out.size))
  have hcr := conv_sl (P := Try.prog) (HD.out.below HB57.out).sl Try.underlying36 Try.underlying5 Try.underlying9 q2
  have hs2 : str [7] = { data := #[7] } := by decide +kernel
  rw [hs2] at hcr
  obtain ⟨b, off, rfl, hcj⟩ := (HJ.out.below HB57.out).sl 0 2 rfl
  have hcapj := HJ.out.cap
  simp only [List.length_cons, List.length_nil, Nat.zero_add, Nat.add_zero] at hcr hcj hcapj ⊢
  clear c0 c1 c2 c3 c4 hb8 hs2
  go_wp2
  go_ret
  exact ⟨rfl, HB7w.out⟩
end Go.Proofs.Ytgikgnhpplmljaa
end
section
/- What At answers, one way or the other; the definition's own Columns (package shamrockref10). -/
namespace Go.Proofs.Ytgikgnhpplmljaa
open Go.RowKit Go.Shelf Gw Pol
theorem at_yes {n t k e C g R : Nat} {z : List Int} {l P : Nat → List Nat} {w w' : World} {en : Ending} (h : AtAns n t k e C g z R l w en w') (hF : Fnd n t k e C z R l P) : ∃ A c, en = .returned (.tuple #[.slice A C c, .bool true]) ∧ In w' w'.heap.size A c (shRow P C g) ∧ Below w.heap.size w w' := by
  obtain ⟨⟨Q, A2, c2, rfl, h1, h2⟩ | ⟨h1, _⟩, hb⟩ := h
  · rw [shRow_congr fun c hc => h1.alone hF hc] at h2
    exact ⟨A2, c2, rfl, h2, hb⟩
  · exact absurd h1 hF.not
theorem at_none (n t k e r R C : Nat) (ti : Int) (hg : goodB n t k e r = true) (hw : (Lit.int .i64 ti).wf = true) (bf : Nat) (A A' : Option Addr) (cA cR N : Nat) (z : List Int) (hN : N = z.length) (pa : Nat → Option Addr) (cp : Nat → Nat) (l : Nat → List Nat) (w : World) (hF : IsField w bf) (hI : InZ w w.heap.size A cA z) (hM : MIn w w.heap.size A' cR R pa cp l) (hC : C ≤ 4096) (hNb : N ≤ 17592186043904) (hRb : R ≤ 5864062014634)
    (hno : (¬ ∃ P, Fnd n t k e C z R l P) ∨ ti < 0 ∨ (n : Int) ≤ ti) :
    Calls Try.prog 17 #[.pointer (some ⟨bf, 0, none⟩), pv n t k e r, .int .i64 (C : Int), .slice A N cA, .slice A' R cR, .int .i64 ti] w fun en w' => ∃ A2 c2, en = .returned (.tuple #[.slice A2 0 c2, .bool false]) ∧ Below w.heap.size w w' := by
  by_cases ht : ti < 0 ∨ (n : Int) ≤ ti
  · refine (oat_bad n t k e r R C ti hg hw ht bf A A' cA cR N z hN pa cp l w hF hI hM hC hNb hRb).mono ?_
    rintro en w' ⟨⟨A2, c2, rfl⟩, hb⟩
    exact ⟨A2, c2, rfl, hb⟩
  · have hno2 := hno.resolve_right ht
    obtain ⟨g, rfl⟩ : ∃ g : Nat, ti = (g : Int) := ⟨ti.toNat, by omega⟩
    refine (oat_any n t k e r R C g hg (by omega) bf A A' cA cR N z hN pa cp l w hF hI hM hC hNb hRb).mono ?_
    rintro en w' ⟨⟨Q, A2, c2, _, h1, _⟩ | ⟨_, A2, c2, rfl⟩, hb⟩
    · exact absurd ⟨Q, h1⟩ hno2
    · exact ⟨A2, c2, rfl, hb⟩
theorem rcols_any (s k : Nat) (hk : 0 < k) (hkb : k ≤ 255) (hs : s ≤ 1073741824) (w : World) :
    Calls Try.prog 16 #[.int .i64 (s : Int), .int .i64 (k : Int)] w fun e w' => e = .returned (.int .i64 (Sp.cnt s k : Int)) ∧ w' = w := by
  obtain ⟨a, ha⟩ : ∃ a, a = s + k := ⟨_, rfl⟩
  obtain ⟨b, hb⟩ : ∃ b, b = a - 1 := ⟨_, rfl⟩
  have e1 : (s : Int) + (k : Int) = (a : Int) := by omega
  have e2 : (a : Int) - 1 = (b : Int) := by omega
  have hd : Sp.cnt s k = b / k := by
    have key : ∀ i, i < Sp.cnt s k ↔ i < b / k := fun i => by
      rw [Sp.cnt_lt hk, show (i < b / k) ↔ (i + 1) * k ≤ b from by rw [Nat.lt_iff_add_one_le]; exact Nat.le_div_iff_mul_le hk, Nat.succ_mul]
      omega
    have h1 := key (Sp.cnt s k)
    have h2 := key (b / k)
    omega
  have HD := Lib.hid hd
  obtain ⟨q, hq⟩ : ∃ q, q = b / k := ⟨_, rfl⟩
  have e3 : (b : Int) / (k : Int) = (q : Int) := by rw [hq]; rfl
  have e4 : (b : Int).tdiv (k : Int) = (q : Int) := by rw [Int.tdiv_eq_ediv_of_nonneg (by omega)]; exact e3
  have hqb : q ≤ b := by rw [hq]; exact Nat.div_le_self _ _
  rw [← hq] at HD
  rw [HD.out]
  have hk0 : ((k : Int) == 0) = false := by simp; omega
  clear hd ha hb hq HD
  go_enter Try.func16, Try.ntmps16
  go_wp2
  go_ret
  exact ⟨rfl, rfl⟩
end Go.Proofs.Ytgikgnhpplmljaa
end
