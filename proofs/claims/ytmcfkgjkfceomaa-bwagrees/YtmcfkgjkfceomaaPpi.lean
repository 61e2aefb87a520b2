/- What poly's pieces hands out: each place of xs, and the polynomial of all other roots, in memory of its own. -/
import Derived.Test.YtmcfkgjkfceomaaPpe
import Derived.Test.YtmcfkgjkfceomaaPpf
import Derived.Test.YtmcfkgjkfceomaaPph
import Derived.Test.YtmcfkgjkfceomaaRfm
namespace Go.Proofs.Ytmcfkgjkfceomaa
open Go.RowKit Go.Shelf Gw Pol
attribute [local go_sem] Oper.semAt_some

/-- Blocks of cells but g stand. -/
structure KeepC (g : Nat) (W W' : World) : Prop where
  size : W.heap.size ≤ W'.heap.size
  same : ∀ b o, b ≠ g → W.heap[b]? = some o → o.isCells = true → W'.heap[b]? = some o
theorem KeepC.refl (g : Nat) (W : World) : KeepC g W W := ⟨Nat.le_refl _, fun _ _ _ h _ => h⟩
theorem KeepC.trans {g : Nat} {A B C : World} (h : KeepC g A B) (k : KeepC g B C) : KeepC g A C := ⟨Nat.le_trans h.size k.size, fun b o h1 h2 h3 => k.same b o h1 (h.same b o h1 h2 h3) h3⟩
theorem KeepC.by {g : Nat} {A B : World} (h : A.grownBy B (some g)) : KeepC g A B := ⟨h.size, fun b o h1 h2 _ => (h.block b (Array.getElem?_eq_some_iff.1 h2).1 (fun e => h1 (by injection e))).trans h2⟩
theorem KeepC.below {g : Nat} {A B : World} (h : Below A.heap.size A B) : KeepC g A B := KeepC.by (Gw.Below.grown h)
theorem KeepC.put {g l : Nat} {W : World} {o o' : Obj} (h : W.heap[l]? = some o) (hc : o.isCells = false) : KeepC g W (W.putObj l o') := ⟨by simp, fun b o2 _ h2 h3 => by
  by_cases e : b = l
  · subst e; rw [h] at h2; injection h2 with h2; subst h2; rw [hc] at h3; cases h3
  · exact (World.putObj_heap_other e).trans h2⟩
theorem KeepC.cell {g b o : Nat} {A B : World} {v : Value} (h : KeepC g A B) (hv : A.cell? ⟨b, o, none⟩ = some v) (hb : b ≠ g) : B.cell? ⟨b, o, none⟩ = some v := by
  obtain ⟨ob, h1, h2⟩ := cells_of_cell hv
  exact (World.cell?_of_block (w := A) (a := ⟨b, o, none⟩) ((h.same b ob hb h1 h2).trans h1.symm)).trans hv
theorem KeepC.field {g b : Nat} {A B : World} (h : KeepC g A B) (hF : IsField A b) (hb : b ≠ g) : IsField B b := fun o ho => by
  obtain ⟨ob, h1, h2⟩ := cells_of_cell (hF o ho).1
  exact ⟨h.cell (hF o ho).1 hb, (World.frozen?_of_block (w := A) (a := ⟨b, o, none⟩) ((h.same b ob hb h1 h2).trans h1.symm)).trans (hF o ho).2⟩
theorem KeepC.sl {g n : Nat} {A B : World} {ad : Option Addr} {l : List Nat} (h : KeepC g A B) (hs : Sl A n ad l) (hn : n ≤ g) : Sl B n ad l := fun i x hx => by
  obtain ⟨h1, b, off, h2, h3, h4⟩ := hs i x hx
  exact ⟨h1, b, off, h2, h3, h.cell h4 (by omega)⟩
theorem KeepC.inn {g n c : Nat} {A B : World} {ad : Option Addr} {l : List Nat} (h : KeepC g A B) (hs : In A n ad c l) (hn : n ≤ g) : In B n ad c l := ⟨h.sl hs.sl hn, hs.cap, hs.none_⟩
theorem KeepC.own {g base c : Nat} {A B : World} {e : TypeId} {ad : Option Addr} {l : List Nat} (h : KeepC g A B) (hs : Gw.Own A base e ad c l) (hb : g < base) : Gw.Own B base e ad c l := by
  refine ⟨⟨hs.1.1, ?_⟩, hs.2⟩
  rcases hs.1.2 with h0 | ⟨k, cap, cur, hv, h1, h2, h3⟩
  · exact .inl h0
  · exact .inr ⟨k, cap, cur, hv, h1, h.same k _ (by omega) h2 rfl, h3⟩
/-- The same, where what is turned is no cells. -/
theorem own_turned {base c : Nat} {A B : World} {row : Option Nat} {e : TypeId} {ad : Option Addr} {l : List Nat} (hs : Gw.Own A base e ad c l) (hg : A.grownBy B row) (hr : ∀ r, row = some r → ∃ o : Obj, A.heap[r]? = some o ∧ o.isCells = false) : Gw.Own B base e ad c l := by
  refine ⟨⟨hs.1.1, ?_⟩, hs.2⟩
  rcases hs.1.2 with h0 | ⟨k, cap, cur, hv, h1, h2, h3⟩
  · exact .inl h0
  · refine .inr ⟨k, cap, cur, hv, h1, ?_, h3⟩
    refine (hg.block k (Array.getElem?_eq_some_iff.1 h2).1 (fun e => ?_)).trans h2
    obtain ⟨o, h4, h5⟩ := hr k e.symm
    rw [h2] at h4
    injection h4 with h4
    subst h4
    cases h5

/-- A place, and the polynomial of all other roots. -/
structure Pc (xs : List Nat) where
  i : Nat
  hi : i < xs.length
  A : Option Addr
  c : Nat
  q : List Nat
  hq : ∃ r, DivOf (rt xs) [xs[i], 1] q r
abbrev cencs (xs : List Nat) (x : Pc xs) : Array Value := #[.int .i64 (x.i : Int), .slice x.A x.q.length x.c]
def PcRd (g : Nat) (xs : List Nat) (x : Pc xs) (W : World) : Prop := Gw.Own W (g + 1) 5 x.A x.c x.q
theorem PcRd.own (g : Nat) (xs : List Nat) (B : Nat) : OwnFrom B (PcRd g xs) := fun _ _ _ _ hs hg hr => own_turned hs hg (fun r e => (hr r e).2)

theorem ppieces_mk (bf : Nat) (A : Option Addr) (n c : Nat) (w : World) :
    Calls Try.prog 40 #[.pointer (some ⟨bf, 0, none⟩), .slice A n c] w fun e w' =>
      e = .returned (.func (.func 48) #[] #[.pointer (some ⟨w.heap.size, 0, none⟩), .pointer (some ⟨w.heap.size + 1, 0, none⟩)]) ∧
      w' = (w.alloc (.cells #[.pointer (some ⟨bf, 0, none⟩)] 27)).alloc (.cells #[.slice A n c] 22) := by
  go_enter Try.func40, Try.ntmps40
  go_wp2
  go_ret
  exact ⟨rfl, rfl⟩

def PpRel (xs : List Nat) (J : List (Pc xs) → World → Prop) (g : Nat) (W : World) (Aa : Option Addr) (ca : Nat) (i : Value) (wr : World) : Prop :=
  ∃ (k : Nat) (pre : List (Pc xs)), k ≤ xs.length ∧ i = .int .i64 (k : Int) ∧ pre.map Pc.i = List.range k ∧ J pre wr ∧ KeepC g W wr ∧ Gw.Own wr W.heap.size 5 Aa ca (rt xs)
set_option maxRecDepth 100000 in
set_option maxHeartbeats 1000000 in
theorem ppieces_stops (n : Nat) (hn : 1 ≤ n) (g bb bx bf B : Nat) (A : Option Addr) (c : Nat) (xs : List Nat) (hcm : xs.length ≤ 70368744177664) (w : World) (hg : g < w.heap.size)
    (h1 : w.cell? ⟨bb, 0, none⟩ = some (.pointer (some ⟨bf, 0, none⟩))) (h2 : w.cell? ⟨bx, 0, none⟩ = some (.slice A xs.length c)) (hF : IsField w bf) (hI : In w B A c xs) (hB : B ≤ g) (k1 : bb ≠ g) (k2 : bx ≠ g) (k3 : bf ≠ g) :
    Gq.SeqMem n Try.prog 48 #[.pointer (some ⟨bb, 0, none⟩), .pointer (some ⟨bx, 0, none⟩)] (cencs xs) (PcRd g xs) (KeepC g) (fun l => l.map Pc.i = List.range xs.length) xs.length w := fun l J W hW hJ hY h0 => by
  have q0 : KeepC g w W := KeepC.below hW
  have c1 := q0.cell h1 k1
  have c2 := q0.cell h2 k2
  have hFW := q0.field hF k3
  have hIW := q0.inn hI hB
  have hWs := hW.size
  have HR := Lib.hid (proots' bf A c xs.length xs W rfl hFW (hIW.more (by omega)) hcm)
  have hrl := (rt_top xs).1
  refine callsIn_of_wp Try.func48 rfl trivial ?_ rfl
  simp only [Try.ntmps48, List.size_toArray, List.length_cons, List.length_nil, Nat.reduceAdd, Nat.reduceSub, Array.replicate_succ, Array.replicate_zero, List.push_toArray, List.append_toArray, List.nil_append, List.cons_append]
  gi_wp2_with fail
  refine ⟨trivial, ?_⟩
  refine (callsIn_wide.2 HR.out).mono ?_
  rintro e W1 ⟨Aa, ca, rfl, hown1, hb1⟩
  have c3 := (KeepC.below (g := g) hb1).cell c2 k2
  have hJ1 := hJ [] W W1 h0 ⟨hb1.os, hb1.tape, hb1.output, hb1.size, fun k hk _ => hb1.block k hk⟩
  have HL := Lib.hid hrl
  clear hrl
  gi_wp2
  gi_loopw [15] (PpRel xs J g W Aa ca) (fun i _ => xs.length - (intOf i).toNat)
  case atStart => exact ⟨0, [], Nat.zero_le _, rfl, rfl, hJ1, KeepC.below hb1, hown1⟩
  case round =>
    obtain ⟨k, pre, hk, rfl, hpre, hJs, hq, hown⟩ := hrel
    have hps : pre.length = k := by have := congrArg List.length hpre; simpa using this
    by_cases hlt : k < xs.length
    · have d1 := hq.cell c1 k1
      have hFr := hq.field hFW k3
      obtain ⟨x, b, off, hx, hxb, rfl, hb, hcell⟩ := (hq.inn hIW hB).sl.at_ hlt
      have hxe : x = xs[k] := by rw [List.getElem?_eq_getElem hlt] at hx; injection hx with hx; exact hx.symm
      have HXE := Lib.hid hxe
      clear hxe hx
      have hqs := hq.size
      have HD := Lib.hid (pdiv' bf Aa (some ⟨wr.heap.size, 0, none⟩) ca 2 (rt xs).length 2 (rt xs) [x, 1] (wr.alloc (.cells #[.int .u8 (x : Int), .int .u8 1] 5)) rfl rfl (hFr.below ((Below.refl _ _).alloc (Nat.le_refl _) _) hFr.lt) (hown.alloc _).inn ⟨(Sl.two wr 5 x 1 hxb (by omega)).more (by simp), by simp, fun h => by cases h⟩ (by rw [tr_lin]; simp) (by rw [HL.out]; omega) (by simp))
      gi_wp2_with fail
      refine ⟨trivial, ?_⟩
      refine (callsIn_wide.2 HD.out).mono ?_
      rintro e w2 ⟨q, r, Aq, Ar, cq, cr, rfl, hdiv, hoq, hor, _, hb2⟩
      have hb3 : Below wr.heap.size wr w2 := ((Below.refl _ wr).alloc (Nat.le_refl _) _).trans (hb2.mono (by simp))
      have hJ2 := hJ pre wr w2 hJs ⟨hb3.os, hb3.tape, hb3.output, hb3.size, fun k hk _ => hb3.block k hk⟩
      have hdx : ∃ r, DivOf (rt xs) [xs[k], 1] q r := ⟨r, HXE.out ▸ hdiv⟩
      obtain ⟨fn, tmps, assign, body, hy, hR⟩ := hY pre ⟨k, hlt, Aq, cq, q, hdx⟩ w2 hJ2 (hoq.base (by simp; omega)) (by rw [hps]; exact hlt)
      have HK := Lib.hid (hq.trans (KeepC.below hb3))
      have HO := Lib.hid (hown.kept hb3)
      have HP := Lib.hid hpre
      clear hdiv hoq hor hb2 hb3 HD hown hq hpre hJs hJ2 hFr d1 hcell
      dsimp only [cencs] at hy
      gi_wp2_with fail
      refine hR.mono ?_
      rintro e W3 ⟨rfl, hJ3, hK3⟩
      have HK3 := Lib.hid (HK.out.trans hK3)
      have HO3 := Lib.hid (hK3.own HO.out (by omega))
      clear hK3
      gi_wp2
      go_roundw
      case rel => exact ⟨k + 1, pre ++ [⟨k, hlt, Aq, cq, q, hdx⟩], by omega, by go_num, by rw [List.map_append, HP.out, List.range_succ]; rfl, hJ3, HK3.out, HO3.out⟩
      case measure => simp [intOf]; omega
    · obtain rfl : k = xs.length := by omega
      gi_wp2
      go_end0
      exact ⟨⟨_, rfl⟩, pre, hpre, hJs⟩
end Go.Proofs.Ytmcfkgjkfceomaa
