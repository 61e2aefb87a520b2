/- What the definition's own Picks (package shamrockref01) does: all ways to pick some of so many, as rows of ints in memory of its own. -/
import Derived.Test.YtmcfkgjkfceomaaPkm
import Derived.Test.YtmcfkgjkfceomaaBwg
import Derived.Maps.AppendAt
namespace Go.Proofs.Ytmcfkgjkfceomaa
open Go.RowKit Go.Shelf Gw Pol

/-- A row of ints: its block, its capacity, its numbers. -/
structure Jr where
  g : Nat
  c : Nat
  l : List Nat
def jv (r : Jr) : Value := .slice (some ⟨r.g, 0, none⟩) r.l.length r.c
theorem jv_one (r : Jr) : (jv r).oneCell' = true := rfl
/-- Rows of ints of the call's own. -/
structure GrJ (base : Nat) (w : World) (v : Value) (R : List Jr) : Prop where
  own : w.ownsRow base 24 1 v R.length (R.map jv)
  row : ∀ r ∈ R, OwnJ w base 3 (some ⟨r.g, 0, none⟩) r.c r.l
theorem rows_info : (Try.prog.info? 24).map (fun i => (i.zero, i.size, i.bytes)) = some (some (.slice none 0 0), 1, 24) := by kernel_rfl
section
variable {base : Nat} {w w' : World} {v : Value} {R : List Jr}
theorem GrJ.nil (base : Nat) (w : World) : GrJ base w (.slice none 0 0) [] := ⟨World.ownsRow_nil w base _ 1, fun r h => by cases h⟩
/-- The block of rows that are appended to. -/
theorem ownsRow_block {e : TypeId} {size n : Nat} {xs : List Value} (h : w.ownsRow base e size v n xs) {b : Nat} (hb : v.ownBlock = some b) : base ≤ b ∧ ∃ cs, w.heap[b]? = some (.cells cs e (0, 0)) := by
  rcases h.2 with ⟨hv, _⟩ | ⟨g, cap, cur, hv, hg, hgb, _⟩
  · subst hv; cases hb
  · subst hv
    simp [Value.ownBlock] at hb
    subst hb
    exact ⟨hg, cur, hgb⟩
theorem ownsRow_grown {e : TypeId} {size n : Nat} {xs : List Value} {row : Option Nat} (h : w.ownsRow base e size v n xs) (hg : w.grownBy w' row) (hr : ∀ b, v.ownBlock = some b → row ≠ some b) : w'.ownsRow base e size v n xs := by
  refine ⟨h.1, ?_⟩
  rcases h.2 with h0 | ⟨g, cap, cur, hv, hb, hgb, h0⟩
  · exact .inl h0
  · exact .inr ⟨g, cap, cur, hv, hb, (hg.block g (Array.getElem?_eq_some_iff.1 hgb).1 (fun e => hr g (by subst hv; simp [Value.ownBlock]) e.symm)).trans hgb, h0⟩
theorem GrJ.kept (h : GrJ base w v R) (hb : Below w.heap.size w w') : GrJ base w' v R :=
  ⟨ownsRow_grown h.own (row := none) ⟨hb.os, hb.tape, hb.output, hb.size, fun k hk _ => hb.block k hk⟩ (fun _ _ e => by cases e), fun r hr => (h.row r hr).kept hb⟩
/-- Where its blocks stand, it stands. -/
theorem GrJ.stands (h : GrJ base w v R) (hs : ∀ b, base ≤ b → b < w.heap.size → w'.heap[b]? = w.heap[b]?) : GrJ base w' v R := by
  refine ⟨⟨h.own.1, ?_⟩, fun r hr => ⟨(h.row r hr).1, ?_⟩⟩
  · rcases h.own.2 with h0 | ⟨g, cap, cur, hv, hb, hgb, h0⟩
    · exact .inl h0
    · exact .inr ⟨g, cap, cur, hv, hb, (hs g hb (Array.getElem?_eq_some_iff.1 hgb).1).trans hgb, h0⟩
  · rcases (h.row r hr).2 with h0 | ⟨g, cap, cur, hv, hb, hgb, h0⟩
    · exact .inl h0
    · exact .inr ⟨g, cap, cur, hv, hb, (hs g hb (Array.getElem?_eq_some_iff.1 hgb).1).trans hgb, h0⟩
theorem GrJ.rebase {base' : Nat} (h : GrJ base w v R) (hb : base' ≤ base) : GrJ base' w v R := by
  refine ⟨⟨h.own.1, ?_⟩, fun r hr => (h.row r hr).rebase hb⟩
  rcases h.own.2 with h0 | ⟨g, cap, cur, hv, hg, h0⟩
  · exact .inl h0
  · exact .inr ⟨g, cap, cur, hv, by omega, h0⟩
theorem GrJ.shape (h : GrJ base w v R) : ∃ A c, v = .slice A R.length c ∧ R.length ≤ c ∧ (A = none → c = 0) := by
  rcases h.own.2 with ⟨hv, h0⟩ | ⟨g, cap, cur, hv, _, _, h1, _⟩
  · subst hv; exact ⟨none, 0, by rw [h0], by omega, fun _ => rfl⟩
  · subst hv; exact ⟨_, cap, rfl, h1, fun h => by cases h⟩
theorem GrJ.at_ (h : GrJ base w v R) {i : Nat} (hi : i < R.length) : ∃ g c, v = .slice (some ⟨g, 0, none⟩) R.length c ∧ R.length ≤ c ∧ base ≤ g ∧ (∃ cs, w.heap[g]? = some (.cells cs 24 (0, 0))) ∧ w.cell? ⟨g, i, none⟩ = some (jv R[i]) := by
  rcases h.own.2 with ⟨hv, h0⟩ | ⟨g, cap, cur, hv, hb, hg, h1, _⟩
  · omega
  · subst hv
    refine ⟨g, cap, rfl, h1, hb, ⟨cur, hg⟩, ?_⟩
    rw [h.own.cellAt i (by omega)]
    simp [hi]
/-- A row more. -/
theorem GrJ.step {w1 w2 w3 : World} {v' : Value} {r : Jr} {o : Obj} (h : GrJ base w v R) (hs : base ≤ w.heap.size) (hb : Below w.heap.size w w1) (hr : OwnJ w1 w.heap.size 3 (some ⟨r.g, 0, none⟩) r.c r.l) (hw2 : w2 = w1.alloc o) (hown : w3.ownsRow base 24 1 v' (R.length + 1) (R.map jv ++ [jv r])) (hg : w2.grownBy w3 v.ownBlock) :
    GrJ base w3 v' (R ++ [r]) ∧ Below base w w3 := by
  subst hw2
  have h1 := h.kept hb
  have hbk : ∀ b, v.ownBlock = some b → base ≤ b ∧ ∃ cs, w1.heap[b]? = some (.cells cs 24 (0, 0)) := fun b hb => ownsRow_block h1.own hb
  have keep : ∀ {A : Option Addr} {c base' : Nat} {l : List Nat}, OwnJ w1 base' 3 A c l → OwnJ w3 base' 3 A c l := fun ho => (ho.alloc o).grown hg (fun b cs _ h2 e => by
    obtain ⟨_, cs', h3⟩ := hbk b e
    rw [Below.heap_alloc _ _ _ (Array.getElem?_eq_some_iff.1 h3).1, h3] at h2
    injection h2 with h2
    injection h2 with _ h4
    exact absurd h4 (by decide))
  refine ⟨⟨?_, fun r' hr' => ?_⟩, ?_⟩
  · rw [List.length_append, List.map_append]; exact hown
  · rcases List.mem_append.1 hr' with h2 | h2
    · exact keep (h1.row r' h2)
    · have : r' = r := by simpa using h2
      subst this
      exact (keep hr).rebase hs
  · exact (((Below.refl base w).trans (hb.mono hs)).alloc (Nat.le_trans hs hb.size) o).grown hg (by rw [World.size_alloc]; have := hb.size; omega) (fun b hb => (hbk b hb).1)
end
theorem ownJ_lit0 (w : World) (base : Nat) (hb : base ≤ w.heap.size) : OwnJ (w.alloc (.cells #[] 3)) base 3 (some ⟨w.heap.size, 0, none⟩) 0 [] := World.ownsRow_made w #[] 0 hb (by simp [maxLen]) rfl
/-- What Picks answers. -/
def PkAns (s n : Nat) (w : World) (e : Ending) (w' : World) : Prop :=
  ∃ (v : Value) (R : List Jr), e = .returned v ∧ R.map Jr.l = pk s n ∧ GrJ w.heap.size w' v R ∧ Below w.heap.size w w'

set_option maxRecDepth 100000 in
set_option maxHeartbeats 1000000 in
theorem picks_zero (n : Nat) (w : World) : Calls Try.prog 24 #[.int .i64 (n : Int), .int .i64 (0 : Nat)] w (PkAns 0 n w) := by
  go_enter Try.func24, Try.ntmps24
  go_wp2
  go_ret
  refine ⟨_, [⟨w.heap.size, 0, []⟩], rfl, rfl, ⟨?_, fun r hr => ?_⟩, ((Below.refl _ w).alloc (Nat.le_refl _) _).alloc (by simp) _⟩
  · have := World.ownsRow_lit (base := w.heap.size) (e := 24) (size := 1) (w.alloc (.cells #[] 3)) #[.slice (some ⟨w.heap.size, 0, none⟩) 0 0] 1 (by simp) (by simp [maxLen]) rfl
    rw [World.size_alloc] at this
    exact this
  · have : r = ⟨w.heap.size, 0, []⟩ := by simpa using hr
    subst this
    exact (ownJ_lit0 w w.heap.size (Nat.le_refl _)).alloc _

def PkO (w : World) (s n : Nat) (v last : Value) (wr : World) : Prop :=
  ∃ (j : Nat) (R : List Jr), j ≤ n - s ∧ last = .int .i64 ((s + j : Nat) : Int) ∧ R.map Jr.l = pkL (pk s) s j ∧ GrJ w.heap.size wr v R ∧ Below w.heap.size w wr
/-- In the inner loop: rows Q are read, which lie from bq on below sq. -/
def PkI (w : World) (s j : Nat) (bq : Nat) (w3 : World) (Q : List Jr) (v i : Value) (wr : World) : Prop :=
  ∃ (k : Nat) (R : List Jr), k ≤ Q.length ∧ i = .int .i64 (k : Int) ∧ R.map Jr.l = pkL (pk s) s j ++ ((Q.take k).map Jr.l).map (· ++ [s + j]) ∧ GrJ w.heap.size wr v R ∧ Below w.heap.size w wr ∧
    (∀ b, bq ≤ b → b < w3.heap.size → wr.heap[b]? = w3.heap[b]?) ∧ (∀ g, v.ownBlock = some g → g < bq ∨ w3.heap.size ≤ g) ∧ w3.heap.size ≤ wr.heap.size

set_option maxRecDepth 100000 in
set_option maxHeartbeats 4000000 in
theorem picks_any (s : Nat) : ∀ (n : Nat) (w : World), n ≤ 20 → s ≤ 1000 → Calls Try.prog 24 #[.int .i64 (n : Int), .int .i64 (s : Int)] w (PkAns s n w) := by
  induction s with
  | zero => intro n w _ _; exact picks_zero n w
  | succ s ih =>
    intro n w hn hs
    obtain ⟨i0, hi0, hz0, hz1, hz2⟩ := info_parts pint_info
    obtain ⟨i1, hj0, hj1, hj2, hj3⟩ := info_parts rows_info
    have hs0 : (((s + 1 : Nat) : Int) == 0) = false := beq_eq_false_iff_ne.2 (by omega)
    have hs1 : ((s + 1 : Nat) : Int) - 1 = (s : Int) := by omega
    obtain ⟨S, hS⟩ : ∃ S : Int, S = ((s + 1 : Nat) : Int) := ⟨_, rfl⟩
    have hSb : 0 < S ∧ S ≤ 1000 := by omega
    rw [← hS] at hs0 hs1 ⊢
    have HS := Lib.hid hS
    clear hS
    have HIH := Lib.hid ih
    clear ih
    go_enter Try.func24, Try.ntmps24
    go_wp2
    go_loopw [5, 6] (PkO w s n) (fun _ l _ => n - (intOf l).toNat)
    case atStart => exact ⟨0, [], Nat.zero_le _, by first | rfl | (rw [hs1]; rfl), rfl, GrJ.nil _ _, Below.refl _ _⟩
    case round =>
      obtain ⟨j, R, hj, rfl, hR, hG, hbel⟩ := hrel
      obtain ⟨A, c, rfl, hc, hcn⟩ := hG.shape
      obtain ⟨t, ht⟩ : ∃ t, t = s + j := ⟨_, rfl⟩
      rw [← ht]
      by_cases hlt : t < n
      · have T := Lib.hid (HIH.out t wr (by omega) (by omega))
        have HG := Lib.hid hG
        have HT := Lib.hid ht
        have HR := Lib.hid hR
        have HB := Lib.hid hbel
        clear hG ht hR hbel
        go_wp2_with fail
        refine T.out.mono ?_
        rintro e w3 ⟨vq, Q, rfl, hQ, hGQ, hb3⟩
        obtain ⟨Aq, cq, rfl, hcq, hcqn⟩ := hGQ.shape
        have hb3s := hb3.size
        have hBs := HB.out.size
        have hQl : Q.length ≤ 2 ^ t := by have h := congrArg List.length hQ; rw [List.length_map] at h; rw [h]; exact pk_len s t
        have hp20 : 2 ^ t ≤ 2 ^ 20 := Nat.pow_le_pow_right (by omega) (by omega)
        have HQL := Lib.hid (Nat.le_trans hQl hp20)
        have hG3 := Lib.hid (HG.out.kept hb3)
        have hbel3 := Lib.hid (HB.out.trans (hb3.mono hBs))
        have hfar : ∀ g, (Value.slice A R.length c).ownBlock = some g → g < wr.heap.size ∨ w3.heap.size ≤ g := fun g hg => by
          obtain ⟨_, cs, h2⟩ := ownsRow_block HG.out.own hg
          exact .inl (Array.getElem?_eq_some_iff.1 h2).1
        have HFAR := Lib.hid hfar
        have HGQ := Lib.hid hGQ
        have HQ := Lib.hid hQ
        have HPL := Lib.hid (pkL_len (pk s) s (pk_len s) j)
        clear hfar hGQ hQ hb3 T hp20 hQl
        obtain ⟨bq, hbq⟩ : ∃ bq, bq = wr.heap.size := ⟨_, rfl⟩
        rw [← hbq] at HFAR HGQ hb3s hBs
        clear hbq HB HG
        go_wp2
        go_loopw [5, 8] (PkI w s j bq w3 Q) (fun _ i _ => Q.length - (intOf i).toNat)
        case atStart => exact ⟨0, R, Nat.zero_le _, rfl, by rw [HR.out]; simp, hG3.out, hbel3.out, fun _ _ _ => rfl, HFAR.out, Nat.le_refl _⟩
        case round =>
          clear HFAR hG3 hbel3 HR
          obtain ⟨k, R2, hk, rfl, hR2, hG2, hbel2, hst, hfr, hsz⟩ := hrel
          obtain ⟨A5, c5, rfl, _, _⟩ := hG2.shape
          have hG4 := HGQ.out.stands hst
          have hbs2 := hbel2.size
          have hR2l : R2.length = (pkL (pk s) s j).length + min k Q.length := by have h := congrArg List.length hR2; simpa using h
          have hp2 : 2 ^ (s + j) ≤ 2 ^ 20 := Nat.pow_le_pow_right (by omega) (by have := HT.out; omega)
          have hR2b : R2.length ≤ 2097152 := by have := HPL.out; have := HQL.out; have := Nat.two_pow_pos s; omega
          have HR2 := Lib.hid hR2
          clear hR2l hp2 hR2
          have hQb : Q.length ≤ 1048576 := HQL.out
          by_cases hkq : k < Q.length
          · obtain ⟨gq, cq2, hvq, hcq2, _, _, hcell⟩ := hG4.at_ hkq
            injection hvq with hA1 _ hA2
            subst hA1 hA2
            have hrow := hG4.row Q[k] (List.getElem_mem hkq)
            obtain ⟨r, hr⟩ : ∃ r, r = Q[k] := ⟨_, rfl⟩
            rw [← hr] at hcell hrow
            have hrl : r.l.length = s := by
              have : r.l ∈ pk s t := by rw [← HQ.out, hr]; exact List.mem_map.2 ⟨Q[k], List.getElem_mem hkq, rfl⟩
              exact (pk_sound s t _ this).1
            have HTK := Lib.hid (show ((Q.take (k + 1)).map Jr.l) = ((Q.take k).map Jr.l) ++ [r.l] by rw [List.take_add_one, List.getElem?_eq_getElem hkq, List.map_append, hr]; rfl)
            have hrl2 : r.l.length ≤ 1000 := by omega
            have HRW := Lib.hid hrow
            have HG2 := Lib.hid hG2
            have HFR := Lib.hid hfr
            have HST := Lib.hid hst
            clear hrow hG2 hr hG4 hrl hfr hst
            have hcell' : wr.cell? ⟨gq, k, none⟩ = some (.slice (some ⟨r.g, 0, none⟩) r.l.length r.c) := hcell
            clear hcell
            have q1 : ∀ o, (wr.alloc o).cell? ⟨gq, k, none⟩ = some (.slice (some ⟨r.g, 0, none⟩) r.l.length r.c) := fun o => (World.cell?_alloc_lt wr o _ (cell_lt hcell')).trans hcell'
            go_wp2_with (first
              | (at_builtin; refine wpList_append_own _ rfl (.tmp 31) (.tmp 35) 24 rfl wr.heap.size 3 i0 (.int .i64 0) 1 8 Try.underlying24 hi0 hz0 hz1 hz2 rfl (by decide) (.slice (some ⟨wr.heap.size, 0, none⟩) 0 0) 0 [] rfl (ownJ_lit0 wr wr.heap.size (Nat.le_refl _)) ⟨r.g, 0, none⟩ r.l.length r.c (intv r.l) rfl (by rw [intv_len, Nat.mul_one]) (fun i u hi => ?_) (intv_one _) (by simp only [maxLen]; omega) (by omega) (by rw [World.size_alloc]; omega) ?_
                 · obtain ⟨x, hx, rfl⟩ : ∃ x, r.l[i]? = some x ∧ u = .int .i64 (x : Int) := by
                     unfold intv at hi
                     rw [List.getElem?_map] at hi
                     cases hx : r.l[i]? with
                     | none => rw [hx] at hi; cases hi
                     | some x => rw [hx] at hi; injection hi with hi; exact ⟨x, rfl, hi.symm⟩
                   obtain ⟨g9, hg9, _, hc9⟩ := ((HRW.out).alloc (.cells #[] 3)).at_ hx
                   injection hg9 with hg9
                   injection hg9 with hg9
                   subst hg9
                   rw [addr_add, Nat.zero_add]
                   exact hc9
                 intro v2 w2 hown2 hgr2 _
                 rw [List.nil_append] at hown2
                 obtain ⟨A2, c2, rfl, hO2⟩ := OwnJ.mk' (L := r.l) hown2
                 have hB2 : Below wr.heap.size wr w2 := ((Below.refl wr.heap.size wr).alloc (Nat.le_refl _) _).grown hgr2 (by rw [World.size_alloc]; omega) (fun b hb => by simp [Value.ownBlock] at hb; omega))
              | (at_builtin; refine wpList_append_own _ rfl (.tmp 36) (.tmp 38) 24 rfl wr.heap.size 3 i0 (.int .i64 0) 1 8 Try.underlying24 hi0 hz0 hz1 hz2 rfl (by decide) (.slice A2 r.l.length c2) r.l.length (intv r.l) rfl (hO2.alloc _) ⟨w2.heap.size, 0, none⟩ 1 1 [.int .i64 (t : Int)] rfl rfl (fun j u hj => by
                    match j, hj with
                    | 0, hj => simp at hj; subst hj; exact cell_new w2 _ _) (fun u hu => by simp at hu; subst hu; rfl) (by simp only [maxLen]; omega) (by omega) (by rw [World.size_alloc]; have := hB2.size; omega) ?_
                 intro v4 w4 hown4 hgr4 _
                 have hB4 : Below wr.heap.size wr w4 := ((hB2.trans (Below.refl _ _)).alloc hB2.size _).grown hgr4 (by rw [World.size_alloc]; have := hB2.size; omega) (fun b hb => (hO2.block hb).1)
                 obtain ⟨A4, c4, rfl, hO4⟩ := OwnJ.mk' (L := r.l ++ [t]) (by rw [intv_app]; exact hown4)
                 obtain ⟨g4, rfl, _, _⟩ := hO4.at_ (i := r.l.length) (l := t) (by simp))
              | (at_builtin; refine wpList_append_own_at _ rfl (.tmp 30) (.tmp 40) 51 rfl w.heap.size 24 i1 (.slice none 0 0) 1 24 Try.underlying51 hj0 hj1 hj2 hj3 rfl (by decide) (.slice A5 R2.length c5) R2.length (R2.map jv) rfl ((HG2.out.kept hB4).own.alloc _) ⟨w4.heap.size, 0, none⟩ 1 1 [.slice (some ⟨g4, 0, none⟩) (r.l.length + 1) c4] rfl rfl (fun j u hj => by
                    match j, hj with
                    | 0, hj => simp at hj; subst hj; exact cell_new w4 _ _) (fun u hu => by simp at hu; subst hu; rfl) (by simp only [maxLen]; omega) (by omega) (by rw [World.size_alloc]; have := hB4.size; omega) ?_
                 intro v6 w6 hown6 hgr6 _ hob6))
            have hjv : jv ⟨g4, c4, r.l ++ [t]⟩ = .slice (some ⟨g4, 0, none⟩) (r.l.length + 1) c4 := by simp [jv]
            obtain ⟨hG6, hB6⟩ := GrJ.step (r := ⟨g4, c4, r.l ++ [t]⟩) HG2.out hbs2 hB4 hO4 rfl (by rw [hjv]; exact hown6) hgr6
            have hst6 : ∀ b, bq ≤ b → b < w3.heap.size → w6.heap[b]? = w3.heap[b]? := fun b h1 h2 => by
              refine (hgr6.block b (by rw [World.size_alloc]; have := hB4.size; omega) (fun e => ?_)).trans ((Below.heap_alloc _ _ _ (by have := hB4.size; omega)).trans ((hB4.block b (by omega)).trans (HST.out b h1 h2)))
              have := HFR.out b e.symm
              omega
            have hfr6 : ∀ g, v6.ownBlock = some g → g < bq ∨ w3.heap.size ≤ g := fun g hg => by
              rcases hob6 with h | h
              · exact HFR.out g (h ▸ hg)
              · rw [h, World.size_alloc] at hg
                injection hg with hg
                have := hB4.size
                exact .inr (by omega)
            have hsz6 : w3.heap.size ≤ w6.heap.size := by have h1 := hgr6.size; rw [World.size_alloc] at h1; have := hB4.size; omega
            have HL6 := Lib.hid (show (R2 ++ [(⟨g4, c4, r.l ++ [t]⟩ : Jr)]).map Jr.l = pkL (pk s) s j ++ ((Q.take (k + 1)).map Jr.l).map (· ++ [s + j]) by
              rw [List.map_append, HR2.out, HTK.out, List.map_append, List.append_assoc, ← HT.out]; rfl)
            have HG6 := Lib.hid hG6
            have HB6 := Lib.hid (hbel2.trans hB6)
            have H6a := Lib.hid hst6
            have H6b := Lib.hid hfr6
            clear hG6 hB6 hst6 hfr6 hown6 hgr6 hob6 hown4 hgr4 hown2 hgr2 hO2 hO4 q1 hcell'
            go_roundw
            case rel => exact ⟨k + 1, _, by omega, by go_num, HL6.out, HG6.out, HB6.out, H6a.out, H6b.out, hsz6⟩
            case measure => simp [intOf]; omega
          · obtain rfl : k = Q.length := by omega
            have HL6 := Lib.hid (show R2.map Jr.l = pkL (pk s) s (j + 1) by
              rw [HR2.out, List.take_length, HQ.out, HT.out]; rfl)
            have HG6 := Lib.hid hG2
            have HB6 := Lib.hid hbel2
            clear hG2 hbel2 hst hfr hG4
            go_wp2
            go_roundw
            case rel => exact ⟨j + 1, R2, by have := HT.out; omega, by have := HT.out; go_num, HL6.out, HG6.out, HB6.out⟩
            case measure => simp [intOf]; omega
      · have hje : n - s ≤ j := by omega
        have HRR := Lib.hid (show R.map Jr.l = pk (s + 1) n by rw [hR]; show _ = pkL (pk s) s (n - s); rw [show j = n - s by omega])
        have HG := Lib.hid hG
        have HB := Lib.hid hbel
        clear hG hbel hR ht
        go_wp2
        go_ret
        exact ⟨_, R, rfl, HRR.out, HG.out, HB.out⟩
end Go.Proofs.Ytmcfkgjkfceomaa
