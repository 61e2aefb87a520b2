/- What bw's rests hands out: Euclid's rests, and their factors, one by one. -/
import Derived.Test.YtmcfkgjkfceomaaBwa
import Derived.Test.YtmcfkgjkfceomaaPpe
namespace Go.Proofs.Ytmcfkgjkfceomaa
open Go.RowKit Go.Shelf Gw Pol Gq
attribute [local go_sem] Oper.semAt_some

/-- A rest, and its factor. -/
structure Rst where
  A : Option Addr
  c : Nat
  r : List Nat
  A' : Option Addr
  c' : Nat
  v : List Nat
abbrev rencs (x : Rst) : Array Value := #[.slice x.A x.r.length x.c, .slice x.A' x.v.length x.c']
def RsRd (X : Nat → TypeId → Prop) (x : Rst) (W : World) : Prop := InX X W x.A x.c x.r ∧ InX X W x.A' x.c' x.v
theorem RsRd.own (X : Nat → TypeId → Prop) (B : Nat) : OwnFrom B (RsRd X) := fun _ _ _ _ hs hg hr => ⟨hs.1.turned hg (fun r e => (hr r e).2), hs.2.turned hg (fun r e => (hr r e).2)⟩
/-- The rest ahead. -/
def lastR (R0 : List Nat) (pre : List Rst) : List Nat := ((pre.getLast?).map Rst.r).getD R0
theorem lastR_nil (R0 : List Nat) : lastR R0 [] = R0 := rfl
theorem lastR_snoc (R0 : List Nat) (pre : List Rst) (x : Rst) : lastR R0 (pre ++ [x]) = x.r := by simp [lastR]
def RsLk (xs ys R0 : List Nat) (pre : List Rst) (x : Rst) : Prop := tr (lastR R0 pre) = lastR R0 pre ∧ ∃ v0, Eu xs ys (lastR R0 pre) v0 x.r x.v

theorem rests_mk (bf : Nat) (A A' : Option Addr) (n c n' c' : Nat) (w : World) :
    Calls Try.prog 45 #[.pointer (some ⟨bf, 0, none⟩), .slice A n c, .slice A' n' c'] w fun e w' =>
      e = .returned (.func (.func 51) #[] #[.pointer (some ⟨w.heap.size + 1, 0, none⟩), .pointer (some ⟨w.heap.size + 2, 0, none⟩), .pointer (some ⟨w.heap.size, 0, none⟩)]) ∧
      w' = ((w.alloc (.cells #[.pointer (some ⟨bf, 0, none⟩)] 27)).alloc (.cells #[.slice A n c] 22)).alloc (.cells #[.slice A' n' c'] 22) := by
  go_enter Try.func45, Try.ntmps45
  go_wp2
  go_ret
  exact ⟨rfl, rfl⟩

def lenOf (v : Value) : Nat := match v with | .slice _ n _ => n | _ => 0
def RsRel (X : Nat → TypeId → Prop) (xs ys R0 : List Nat) (J : List Rst → World → Prop) (W : World) (a fa b fb : Value) (wr : World) : Prop :=
  ∃ (pre : List Rst) (r0 v0 r1 v1 : List Nat) (A0 B0 A1 B1 : Option Addr) (c0 d0 c1 d1 : Nat), a = .slice A0 r0.length c0 ∧ fa = .slice B0 v0.length d0 ∧ b = .slice A1 r1.length c1 ∧ fb = .slice B1 v1.length d1 ∧
    lastR R0 pre = r0 ∧ tr r0 = r0 ∧ Eu xs ys r0 v0 r1 v1 ∧ J pre wr ∧ InX X wr A0 c0 r0 ∧ InX X wr B0 d0 v0 ∧ InX X wr A1 c1 r1 ∧ InX X wr B1 d1 v1 ∧ KeepX X W wr
theorem one_bb : BB [1] := BB.cons (by omega) BB.nil
set_option maxRecDepth 100000 in
set_option maxHeartbeats 2000000 in
theorem rests_stops (n : Nat) (hn : 1 ≤ n) (X : Nat → TypeId → Prop) (p1 p2 p3 bf : Nat) (A A' : Option Addr) (c c' : Nat) (xs ys R0 R1 : List Nat) (w : World) (hx : BB xs) (hy : BB ys) (hl : xs.length ≤ 255)
    (h1 : w.cell? ⟨p1, 0, none⟩ = some (.slice A R0.length c)) (h2 : w.cell? ⟨p2, 0, none⟩ = some (.slice A' R1.length c')) (h3 : w.cell? ⟨p3, 0, none⟩ = some (.pointer (some ⟨bf, 0, none⟩))) (hF : IsField w bf)
    (hI : InX X w A c R0) (hI' : InX X w A' c' R1) (k1 : ∀ e, ¬ X p1 e) (k2 : ∀ e, ¬ X p2 e) (k3 : ∀ e, ¬ X p3 e) (k4 : ∀ e, ¬ X bf e) (hX : ∀ b e, w.heap.size ≤ b → ¬ X b e)
    (ht : tr R0 = R0) (hE : Eu xs ys R0 [] R1 [1]) :
    SeqMemX n Try.prog 51 #[.pointer (some ⟨p1, 0, none⟩), .pointer (some ⟨p2, 0, none⟩), .pointer (some ⟨p3, 0, none⟩)] rencs (RsRd X) (KeepX X) (RsLk xs ys R0) (fun pre => lastR R0 pre = []) w := fun l J Jx W hW hJ hY h0 => by
  have q0 : KeepX X w W := KeepX.below hW
  have c1 := q0.cell h1 k1
  have c2 := q0.cell h2 k2
  have c3 := q0.cell h3 k3
  have hFW := q0.field hF k4
  have hIW := hI.keep q0
  have hIW' := hI'.keep q0
  have hWs := hW.size
  have hJ1 : J [] (W.alloc (.cells #[.int .u8 1] 5)) := hJ [] W _ h0 ⟨rfl, rfl, rfl, by simp, fun k hk _ => Below.heap_alloc _ _ _ hk⟩
  have HE := Lib.hid hE
  have HT := Lib.hid ht
  clear hE ht
  refine callsIn_of_wp Try.func51 rfl trivial ?_ rfl
  simp only [Try.ntmps51, List.size_toArray, List.length_cons, List.length_nil, Nat.reduceAdd, Nat.reduceSub, Array.replicate_succ, Array.replicate_zero, List.push_toArray, List.append_toArray, List.nil_append, List.cons_append]
  gi_wp2
  have hb1 : Below W.heap.size W (W.alloc (.cells #[.int .u8 1] 5)) := (Below.refl _ _).alloc (Nat.le_refl _) _
  have hone : InX X (W.alloc (.cells #[.int .u8 1] 5)) (some ⟨W.heap.size, 0, none⟩) 1 [1] := Own.x (base := W.heap.size) (e := 5) ⟨World.ownsRow_lit W #[.int .u8 1] 1 (Nat.le_refl _) (by simp [maxLen]) rfl, one_bb⟩ (fun b e h => hX b e (by omega))
  gi_loopw [5, 6, 7, 8] (RsRel X xs ys R0 J W) (fun _ _ b _ _ => lenOf b)
  case atStart => exact ⟨[], R0, [], R1, [1], A, none, A', some ⟨W.heap.size, 0, none⟩, c, 0, c', 1, rfl, rfl, rfl, rfl, rfl, HT.out, HE.out, hJ1, hIW.below hb1, ⟨fun i x h => by simp at h, Nat.le_refl _, fun _ => rfl⟩, hIW'.below hb1, hone, KeepX.below hb1⟩
  case round =>
    clear hone hJ1 hb1
    obtain ⟨pre, r0, v0, r1, v1, A0, B0, A1, B1, e0, d0, e1, d1, rfl, rfl, rfl, rfl, hlast, ht0, hEu, hJs, i0, i1, i2, i3, hK⟩ := hrel
    obtain ⟨fn, tmps, assign, body, hyy, hR⟩ := hY pre ⟨A1, e1, r1, B1, d1, v1⟩ wr hJs ⟨i2, i3⟩ ⟨by rw [hlast]; exact ht0, v0, by rw [hlast]; exact hEu⟩
    dsimp only [rencs] at hyy
    have HL := Lib.hid hlast
    have HEU := Lib.hid hEu
    have HT0 := Lib.hid ht0
    have HI0 := Lib.hid i0
    have HI1 := Lib.hid i1
    have HI2 := Lib.hid i2
    have HI3 := Lib.hid i3
    have HK := Lib.hid hK
    clear hlast hEu ht0 i0 i1 i2 i3 hJs hK
    gi_wp2_with fail
    refine hR.mono ?_
    rintro e W3 (⟨rfl, hJ3, hK3⟩ | ⟨rfl, hJx3⟩)
    · have hK4 := HK.out.trans hK3
      have g3 := hK4.cell c3 k3
      have hF3 := hK4.field hFW k4
      have g0 := HI0.out.keep hK3
      have g1 := HI1.out.keep hK3
      have g2 := HI2.out.keep hK3
      have g4 := HI3.out.keep hK3
      have hsum := HEU.out.sum
      have hfall := HEU.out.fall
      have hrise := HEU.out.rise
      have hsz := HK.out.size
      have hsz3 := hK3.size
      by_cases hz : r1 = []
      · subst hz
        have HD := Lib.hid (pdiv_none bf A0 A1 e0 e1 r0 [] W3 g2.inn rfl (by simp))
        clear hyy
        gi_wp2_with fail
        refine ⟨trivial, ?_⟩
        refine (callsIn_wide.2 HD.out).mono ?_
        rintro e w4 ⟨rfl, rfl⟩
        gi_wp2
        refine bodyPost_ret (results_none rfl _ _ _) rfl ?_
        exact ⟨⟨_, rfl⟩, .inl ⟨_, lastR_snoc _ _ _, hJ3⟩⟩
      · have HD := Lib.hid (pdiv_any bf A0 A1 e0 e1 r0 r1 W3 hF3 g0.inn g2.inn (by rw [HEU.out.t1]; exact hz) (by omega) (by omega))
        have HZ := Lib.hid hz
        clear hyy hz
        gi_wp2_with fail
        refine ⟨trivial, ?_⟩
        refine (callsIn_wide.2 HD.out).mono ?_
        rintro e w4 ⟨q, r2, Aq, Ar, cq, cr, rfl, hdiv, hoq, hor, _, hb4⟩
        have hql := hdiv.lq
        have hF4 := hF3.below hb4 hF3.lt
        have g5 := (KeepX.below (X := X) hb4).cell g3 k3
        have HM := Lib.hid (pmul_any bf Aq B1 cq d1 q v1 w4 hF4 hoq.inn (g4.below hb4).inn (by omega))
        have HDV := Lib.hid hdiv
        clear hdiv g3
        gi_wp2_with fail
        refine ⟨trivial, ?_⟩
        refine (callsIn_wide.2 HM.out).mono ?_
        rintro e w5 ⟨Am, cm, rfl, hom, hb5⟩
        have hml : (tr (mul q v1)).length ≤ q.length + v1.length := Nat.le_trans (tr_len _) (mul_len _ _)
        have HA := Lib.hid (padd_any B0 Am d0 cm v0 (tr (mul q v1)) w5 ((g1.below hb4).below hb5).inn hom.inn (by omega))
        have HML := Lib.hid hml
        clear hml
        gi_wp2_with fail
        refine ⟨trivial, ?_⟩
        refine (callsIn_wide.2 HA.out).mono ?_
        rintro e w6 ⟨Ap, cp, rfl, hop, hb6⟩
        have hb46 : Below W3.heap.size W3 w6 := (hb4.trans (hb5.mono hb4.size)).trans (hb6.mono (Nat.le_trans hb4.size hb5.size))
        have hJ6 := Lib.hid (hJ _ W3 w6 hJ3 ⟨hb46.os, hb46.tape, hb46.output, hb46.size, fun k hk _ => hb46.block k hk⟩)
        have H1 := Lib.hid (g2.below hb46)
        have H2 := Lib.hid (g4.below hb46)
        have H3 := Lib.hid (((hor.kept hb5).kept hb6).x (X := X) (fun b e h => hX b e (by omega)))
        have H4 := Lib.hid (hop.x (X := X) (fun b e h => hX b e (by have := hb4.size; have := hb5.size; omega)))
        have H5 := Lib.hid (hK4.trans (KeepX.below hb46))
        have HST := Lib.hid (HEU.out.step hx hy HT0.out HZ.out HDV.out)
        have HTT := Lib.hid HEU.out.t1
        have hlt := HDV.out.lr
        rw [HTT.out] at hlt
        clear hor hop hom hoq hb4 hb5 hb6 hb46 g0 g1 g2 g4 g5 hF4 hF3 hK4 hJ3 hK3
        gi_wp2
        go_roundw
        case rel => exact ⟨pre ++ [⟨A1, e1, r1, B1, d1, v1⟩], r1, v1, r2, _, A1, B1, Ar, Ap, e1, d1, cr, cp, rfl, rfl, rfl, rfl, lastR_snoc _ _ _, HTT.out, HST.out, hJ6.out, H1.out, H2.out, H3.out, H4.out, H5.out⟩
        case measure => simp only [lenOf]; omega
    · clear hyy
      gi_wp2
      go_end0
      exact ⟨⟨_, rfl⟩, .inr ⟨_, hJx3⟩⟩
end Go.Proofs.Ytmcfkgjkfceomaa
