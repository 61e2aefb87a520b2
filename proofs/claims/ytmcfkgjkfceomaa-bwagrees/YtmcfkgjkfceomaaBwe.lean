/- What bw's others hands out: the places at which a polynomial has another value. -/
import Derived.Test.YtmcfkgjkfceomaaOin
import Derived.Test.YtmcfkgjkfceomaaBwa
import Derived.Test.YtmcfkgjkfceomaaRsa
namespace Go.Proofs.Ytmcfkgjkfceomaa
open Go.RowKit Go.Shelf Gw Pol Gq
attribute [local go_sem] Oper.semAt_some

theorem others_mk (bf : Nat) (A1 A2 A3 : Option Addr) (n1 c1 n2 c2 n3 c3 : Nat) (w : World) :
    Calls Try.prog 22 #[.pointer (some ⟨bf, 0, none⟩), .slice A1 n1 c1, .slice A2 n2 c2, .slice A3 n3 c3] w fun e w' =>
      e = .returned (.func (.func 32) #[] #[.pointer (some ⟨w.heap.size, 0, none⟩), .pointer (some ⟨w.heap.size + 1, 0, none⟩), .pointer (some ⟨w.heap.size + 2, 0, none⟩), .pointer (some ⟨w.heap.size + 3, 0, none⟩)]) ∧
      w' = (((w.alloc (.cells #[.pointer (some ⟨bf, 0, none⟩)] 27)).alloc (.cells #[.slice A1 n1 c1] 22)).alloc (.cells #[.slice A2 n2 c2] 22)).alloc (.cells #[.slice A3 n3 c3] 22) := by
  go_enter Try.func22, Try.ntmps22
  go_wp2
  go_ret
  exact ⟨rfl, rfl⟩

def oval {L : Nat} (pre : List (Plc L)) : List Nat := pre.map (fun x => x.1)
theorem oval_snoc {L : Nat} (pre : List (Plc L)) (x : Plc L) : oval (pre ++ [x]) = oval pre ++ [x.1] := by simp [oval]
abbrev oencs (L : Nat) (i : Plc L) : Array Value := #[.int .i64 (i.1 : Int)]
def OtLk (p xs ys : List Nat) (pre : List (Plc xs.length)) (x : Plc xs.length) : Prop := oval pre = wrTo p xs ys x.1
def OtRel (p xs ys : List Nat) (X : Nat → TypeId → Prop) (J : List (Plc xs.length) → World → Prop) (W : World) (A : Option Addr) (c : Nat) (i : Value) (wr : World) : Prop :=
  ∃ (k : Nat) (pre : List (Plc xs.length)), k ≤ xs.length ∧ i = .int .i64 (k : Int) ∧ oval pre = wrTo p xs ys k ∧ J pre wr ∧ KeepX X W wr ∧ Gw.Own wr W.heap.size 5 A c (enc p xs)
set_option maxRecDepth 100000 in
set_option maxHeartbeats 2000000 in
theorem others_stops (n : Nat) (hn : 1 ≤ n) (X : Nat → TypeId → Prop) (p1 p2 p3 p4 bf : Nat) (A1 A2 A3 : Option Addr) (c1 c2 c3 : Nat) (p xs ys : List Nat) (w : World) (hl : xs.length ≤ 255) (hlp : p.length ≤ 140737488355328) (he : xs.length = ys.length)
    (h1 : w.cell? ⟨p1, 0, none⟩ = some (.pointer (some ⟨bf, 0, none⟩))) (h2 : w.cell? ⟨p2, 0, none⟩ = some (.slice A1 p.length c1)) (h3 : w.cell? ⟨p3, 0, none⟩ = some (.slice A2 xs.length c2)) (h4 : w.cell? ⟨p4, 0, none⟩ = some (.slice A3 ys.length c3)) (hF : IsField w bf)
    (i1 : InX X w A1 c1 p) (i2 : InX X w A2 c2 xs) (i3 : InX X w A3 c3 ys) (k1 : ∀ e, ¬ X p1 e) (k2 : ∀ e, ¬ X p2 e) (k3 : ∀ e, ¬ X p3 e) (k4 : ∀ e, ¬ X p4 e) (k5 : ∀ e, ¬ X bf e) (hX : ∀ b, w.heap.size ≤ b → ¬ X b 5) :
    SeqMemX n Try.prog 32 #[.pointer (some ⟨p1, 0, none⟩), .pointer (some ⟨p2, 0, none⟩), .pointer (some ⟨p3, 0, none⟩), .pointer (some ⟨p4, 0, none⟩)] (oencs xs.length) (fun _ _ => True) (KeepX X) (OtLk p xs ys) (fun pre => oval pre = wrTo p xs ys xs.length) w := fun l J Jx W hW hJ hY h0 => by
  have q0 : KeepX X w W := KeepX.below hW
  have g1 := q0.cell h1 k1
  have g2 := q0.cell h2 k2
  have g3 := q0.cell h3 k3
  have g4 := q0.cell h4 k4
  have hFW := q0.field hF k5
  have j1 := i1.keep q0
  have j2 := i2.keep q0
  have j3 := i3.keep q0
  have hWs := hW.size
  have HEN := Lib.hid (encode_any bf A1 A2 c1 c2 p xs W hFW j1.inn j2.inn hlp (by omega))
  have HBP := Lib.hid j1.bb
  have HE := Lib.hid he
  have hel := enc_len p xs
  have HEL := Lib.hid hel
  clear he hel
  refine callsIn_of_wp Try.func32 rfl trivial ?_ rfl
  simp only [Try.ntmps32, List.size_toArray, List.length_cons, List.length_nil, Nat.reduceAdd, Nat.reduceSub, Array.replicate_succ, Array.replicate_zero, List.push_toArray, List.append_toArray, List.nil_append, List.cons_append]
  gi_wp2_with fail
  refine ⟨trivial, ?_⟩
  refine (callsIn_wide.2 HEN.out).mono ?_
  rintro e W1 ⟨Aa, ca, rfl, hown1, hb1⟩
  have hJ1 := hJ [] W W1 h0 ⟨hb1.os, hb1.tape, hb1.output, hb1.size, fun k hk _ => hb1.block k hk⟩
  rw [HEL.out]
  have hcap := hown1.cap
  rw [HEL.out] at hcap
  gi_wp2
  gi_loopw [13] (OtRel p xs ys X J W Aa ca) (fun i _ => xs.length - (intOf i).toNat)
  case atStart => exact ⟨0, [], Nat.zero_le _, rfl, rfl, hJ1, KeepX.below hb1, hown1⟩
  case round =>
    clear hJ1 hown1 hb1
    obtain ⟨k, pre, hk, rfl, hpre, hJs, hq, hown⟩ := hrel
    by_cases hlt : k < xs.length
    · have d4 := hq.cell g4 k4
      obtain ⟨y, b, off, hy, hyb, rfl, _, hcy⟩ := (j3.keep hq).inn.sl.at_ (k := k) (by rw [← HE.out]; exact hlt)
      obtain ⟨g, rfl, hg, _⟩ := hown.store (k := k) (by rw [HEL.out]; exact hlt)
      have hcx := hown.cell (k := k) (by rw [HEL.out]; exact hlt)
      rw [enc_at hlt] at hcx
      obtain ⟨v, hv⟩ : ∃ v, v = ev xs[k] p := ⟨_, rfl⟩
      rw [← hv] at hcx
      have hvb : v < 256 := by rw [hv]; exact ev_lt HBP.out _
      have hly : k < ys.length := by rw [← HE.out]; exact hlt
      by_cases hvy : v = y
      · have HW := Lib.hid (show wrTo p xs ys (k + 1) = wrTo p xs ys k by rw [wrTo, if_pos (by rw [co_get hlt, co_of' hy, ← hv]; exact hvy)])
        subst hvy
        have HO := Lib.hid hown
        have HQ := Lib.hid hq
        have HP := Lib.hid hpre
        clear hv hy hown hq hpre
        gi_wp2
        all_goals (refine ⟨fun _ _ => trivial, ?_⟩)
        gi_wp2
        go_roundw
        case rel => exact ⟨k + 1, pre, by omega, by go_num, by rw [HW.out]; exact HP.out, hJs, HQ.out, HO.out⟩
        case measure => simp [intOf]; omega
      · have HW := Lib.hid (show wrTo p xs ys (k + 1) = wrTo p xs ys k ++ [k] by rw [wrTo, if_neg (by rw [co_get hlt, co_of' hy, ← hv]; exact hvy)])
        have hne : ((y : Int) != (v : Int)) = true := by rw [bne_iff_ne]; omega
        obtain ⟨fn, tmps, assign, body, hyy, hR⟩ := hY pre ⟨k, hlt⟩ wr hJs trivial hpre
        dsimp only [oencs] at hyy
        have HO := Lib.hid hown
        have HQ := Lib.hid hq
        have HP := Lib.hid hpre
        clear hv hy hown hq hpre hJs hvy
        gi_wp2_with fail
        refine hR.mono ?_
        rintro e W3 (⟨rfl, hJ3, hK3⟩ | ⟨rfl, hJx3⟩)
        · have H1 := Lib.hid (HQ.out.trans hK3)
          have H2 := Lib.hid (hK3.own HO.out (fun b h => hX b (by omega)))
          clear hyy hK3
          gi_wp2
          go_roundw
          case rel => exact ⟨k + 1, pre ++ [⟨k, hlt⟩], by omega, by go_num, by rw [HW.out, oval_snoc, HP.out], hJ3, H1.out, H2.out⟩
          case measure => simp [intOf]; omega
        · clear hyy
          gi_wp2
          refine bodyPost_ret (results_none rfl _ _ _) rfl ?_
          exact ⟨⟨_, rfl⟩, .inr ⟨_, hJx3⟩⟩
    · obtain rfl : k = xs.length := by omega
      gi_wp2
      go_end0
      exact ⟨⟨_, rfl⟩, .inl ⟨pre, hpre, hJs⟩⟩
end Go.Proofs.Ytmcfkgjkfceomaa
