/- What solve's reduce does: the table made plain, column by column; which columns have a row of their own. -/
import Derived.Test.YtkgbmkbbkaifmaaSvd
import Derived.Test.YtkgbmkbbkaifmaaSve
import Derived.Laws.AppendOwn
namespace Gw
open Go Go.RowKit Go.Shelf
theorem Kt.grown {lo hi : Nat} {a b c : World} {row : Option Nat} (h : Kt lo hi a b) (hg : b.grownBy c row) (hr : ∀ k, row = some k → a.heap.size ≤ k) : Kt lo hi a c :=
  ⟨hg.os.trans h.os, hg.tape.trans h.tape, hg.output.trans h.output, Nat.le_trans h.size hg.size, fun k hk hn => (hg.block k (Nat.lt_of_lt_of_le hk h.size) (fun e => by have := hr k e.symm; omega)).trans (h.block k hk hn)⟩
/-- What an append of one int leaves. -/
theorem OwnI.app {w W5 w' : World} {lo hi g R n m c cl : Nat} {bs cp : Nat → Nat} {N : Sv.Mx} {A : Option Addr} {L : List Nat} {e : TypeId} {v' : Value} {o : Obj} (hT : Tab W5 lo hi g bs cp N R n) (hK : Kt lo hi w W5) (hs : hi ≤ w.heap.size)
    (ho : OwnI W5 w.heap.size e A cl L) (hown : w'.ownsRow w.heap.size e 1 v' (m + 1) (ints L ++ [.int .i64 (c : Int)])) (hg : (W5.alloc o).grownBy w' (Value.slice A m cl).ownBlock) :
    ∃ A' cl', v' = .slice A' (L ++ [c]).length cl' ∧ OwnI w' w.heap.size e A' cl' (L ++ [c]) ∧ Tab w' lo hi g bs cp N R n ∧ Kt lo hi w w' := by
  have e1 : ints L ++ [.int .i64 (c : Int)] = ints (L ++ [c]) := by simp [ints]
  rw [e1] at hown
  obtain ⟨A', cl', hv, hO⟩ := OwnI.mk' hown
  have hr : ∀ k, (Value.slice A m cl).ownBlock = some k → w.heap.size ≤ k := fun k hk => (World.ownsRow.lt ho k (own_any hk)).1
  refine ⟨A', cl', hv, hO, hT.below (B := hi) ?_ (Nat.le_refl _), (hK.alloc o).grown hg hr⟩
  have hsz := hK.size
  exact ((Below.refl hi W5).alloc (by omega) o).grown hg (by simp; omega) (fun k hk => by have := hr k hk; omega)
end Gw
namespace Go.Proofs.Ytkgbmkbbkaifmaa
open Go.RowKit Go.Shelf Gw Pol

def RdRel (w : World) (lo hi g R n : Nat) (M : Sv.Mx) (v i : Value) (wr : World) : Prop :=
  ∃ (c : Nat) (bs cp : Nat → Nat) (A : Option Addr) (cl : Nat), c ≤ n ∧ i = .int .i64 (c : Int) ∧ v = .slice A (Sv.red R M c).2.length cl ∧ OwnI wr w.heap.size 3 A cl (Sv.red R M c).2 ∧
    Tab wr lo hi g bs cp (Sv.red R M c).1 R n ∧ Kt lo hi w wr

/-- What is told of the call: what is laid behind the table, and the table. -/
def RdAns (w : World) (lo hi g R n : Nat) (M : Sv.Mx) (e : Ending) (w' : World) : Prop :=
  ∃ (bs cp : Nat → Nat) (A : Option Addr) (cl : Nat), e = .returned (.slice A (Sv.red R M n).2.length cl) ∧ OwnI w' w.heap.size 3 A cl (Sv.red R M n).2 ∧
    Tab w' lo hi g bs cp (Sv.red R M n).1 R n ∧ Kt lo hi w w'

set_option maxRecDepth 100000 in
set_option maxHeartbeats 4000000 in
theorem reduce_any (bf lo hi g R n cc : Nat) (bs cp : Nat → Nat) (M : Sv.Mx) (w : World) (hT : Tab w lo hi g bs cp M R n) (hF : IsField w bf) (hbf : bf < lo) (hn : n ≤ 4294967296) (hR : R ≤ 4294967296) (hR0 : 0 < R) (hM : Sv.Bm M) :
    Calls Try.prog 20 #[.pointer (some ⟨bf, 0, none⟩), .slice (some ⟨g, 0, none⟩) R cc] w fun e w' => RdAns w lo hi g R n M e w' := by
  obtain ⟨i0, hi0, hz0, hz1, hz2⟩ := info_parts int_info
  have hs := hT.his
  have hlf := hF.lt
  have HW := Lib.hid (width_pos g 0 cc R n (cp 0) (some ⟨bs 0, 0, none⟩) w hR0 (hT.rowc hR0))
  go_enter Try.func20, Try.ntmps20
  go_wp2_with (go_at_call 18; refine HW.out.mono ?_; rintro e w' ⟨rfl, rfl⟩)
  clear HW
  go_loopw [5, 12] (RdRel w lo hi g R n M) (fun _ i _ => n - (intOf i).toNat)
  case atStart => exact ⟨0, bs, cp, none, 0, Nat.zero_le _, rfl, rfl, OwnI.nil _ _ _, hT, Kt.refl _ _ _⟩
  case round =>
    clear hT
    obtain ⟨c, bs, cp, A, cl, hcn, rfl, rfl, hO, hT, hK⟩ := hrel
    have hE := Sv.red_ech R hM c
    have HRS : Hid (Sv.red R M (c + 1) = Sv.step R c (Sv.red R M c)) := Lib.hid rfl
    by_cases hlt : c < n
    · obtain ⟨N, hN⟩ : ∃ N, N = (Sv.red R M c).1 := ⟨_, rfl⟩
      obtain ⟨L, hL⟩ : ∃ L, L = (Sv.red R M c).2 := ⟨_, rfl⟩
      rw [show Sv.red R M c = (N, L) by rw [hN, hL]] at HRS
      rw [← hN] at hT hE
      rw [← hL] at hO hE ⊢
      have HN := Lib.hid hN
      have HL := Lib.hid hL
      clear hN hL
      have hlen := hE.len
      have hNb := hE.byt
      clear hE
      have hsr := hK.size
      obtain ⟨m, hm⟩ : ∃ m, m = L.length := ⟨_, rfl⟩
      rw [← hm] at hlen ⊢
      have HM := Lib.hid hm
      clear hm
      have T1 := fun o => hT.alloc o
      have hcl : L.length ≤ cl := hO.capl
      rcases Sv.step_or R c N L with ⟨h0, e⟩ | ⟨r, h1, h2, h4, h3, e⟩
      · rw [e] at HRS
        have HC := Lib.hid (fun o (h : (wr.alloc o).cell? ⟨wr.heap.size, 0, none⟩ = some (.int .i64 (c : Int))) => find_miss wr.heap.size lo hi g R n m c cc bs cp N (wr.alloc o) (T1 o) h hlt hR hlen (by rw [HM.out]; exact h0))
        have HT := Lib.hid hT
        have HK := Lib.hid hK
        have HO := Lib.hid hO
        clear h0 e T1 hT hK hO hcl
        go_wp2_with (go_at_call 24; refine (HC.out _ (cell_new wr _ _)).mono ?_; rintro e w' ⟨rfl, rfl⟩)
        go_roundw
        case rel => exact ⟨c + 1, bs, cp, A, cl, by omega, by go_num, by rw [HRS.out, HM.out], by rw [HRS.out]; exact HO.out.alloc _, by rw [HRS.out]; exact HT.out.alloc _, HK.out.alloc _⟩
        case measure => simp [intOf]; omega
      · rw [e] at HRS
        rw [← HM.out] at h1 h3
        have HC := Lib.hid (fun o (h : (wr.alloc o).cell? ⟨wr.heap.size, 0, none⟩ = some (.int .i64 (c : Int))) => find_hit wr.heap.size lo hi g R n m c r cc bs cp N (wr.alloc o) (T1 o) h hlt hR h1 h2 h3 h4)
        have hmR : m < R := by omega
        have a1 := fun o => (T1 o).rowc h2
        have a2 := fun o => (T1 o).rowc hmR
        have f1 := fun o => (T1 o).rowf hmR
        have f2 := fun o => (T1 o).rowf h2
        have HT := Lib.hid hT
        have HK := Lib.hid hK
        have HO := Lib.hid hO
        clear h3 e T1 hT hK hO hcl
        go_wp2_with (go_at_call 24; refine (HC.out _ (cell_new wr _ _)).mono ?_; rintro e w' ⟨rfl, rfl⟩)
        clear HC
        obtain ⟨W1, hW1⟩ : ∃ W1, W1 = wr.alloc (.cells #[.int .i64 (c : Int)] 3) := ⟨_, rfl⟩
        rw [← hW1]
        replace a1 := a1 (.cells #[.int .i64 (c : Int)] 3)
        replace a2 := a2 (.cells #[.int .i64 (c : Int)] 3)
        replace f1 := f1 (.cells #[.int .i64 (c : Int)] 3)
        replace f2 := f2 (.cells #[.int .i64 (c : Int)] 3)
        have b1 := cell_new wr (.int .i64 (c : Int)) 3
        rw [← hW1] at a1 a2 f1 f2 b1
        have T1 : Hid (Tab W1 lo hi g bs cp N R n) := Lib.hid (by rw [hW1]; exact HT.out.alloc _)
        have K1 : Hid (Kt lo hi w W1) := Lib.hid (by rw [hW1]; exact HK.out.alloc _)
        have O1 : Hid (OwnI W1 w.heap.size 3 A cl L) := Lib.hid (by rw [hW1]; exact HO.out.alloc _)
        clear hW1 HT HK HO
        have z1 : (W1.setCell ⟨g, m, none⟩ (.slice (some ⟨bs r, 0, none⟩) n (cp r))).cell? ⟨g, r, none⟩ = some (.slice (some ⟨bs r, 0, none⟩) n (cp r)) := by
          by_cases e : m = r
          · subst e; exact World.cell?_setCell_same _ _ _ a1
          · rw [World.cell?_setCell_other _ _ _ _ (fun h => e (by cases h; rfl))]; exact a1
        have z2 : (W1.setCell ⟨g, m, none⟩ (.slice (some ⟨bs r, 0, none⟩) n (cp r))).frozen? ⟨g, r, none⟩ = false := by rw [World.frozen?_setCell]; exact f2
        have z3 : (W1.drew.setCell ⟨g, m, none⟩ (.slice (some ⟨bs r, 0, none⟩) n (cp r))).cell? ⟨g, r, none⟩ = some (.slice (some ⟨bs r, 0, none⟩) n (cp r)) := z1
        have z4 : (W1.drew.setCell ⟨g, m, none⟩ (.slice (some ⟨bs r, 0, none⟩) n (cp r))).frozen? ⟨g, r, none⟩ = false := z2
        go_cut [] (fun wx => ∃ q, wx = ((W1.drewN q).setCell ⟨g, m, none⟩ (.slice (some ⟨bs r, 0, none⟩) n (cp r))).setCell ⟨g, r, none⟩ (.slice (some ⟨bs m, 0, none⟩) n (cp m)))
        case first =>
          go_region
          all_goals (go_wp2_with fail; go_meet; exact ⟨_, rfl⟩)
        case rest =>
          obtain ⟨q, hwc⟩ := hcut
          have T2 : Tab wc lo hi g (sw m r bs) (sw m r cp) (Sv.swp N m r) R n := by rw [hwc]; exact (T1.out.drewN q).swap hmR h2
          have hgl := T1.out.glo
          have K2 : Kt lo hi W1 wc := by rw [hwc]; exact (((Kt.refl lo hi W1).drewN q).set (p := ⟨g, m, none⟩) hgl _).set (p := ⟨g, r, none⟩) hgl _
          have K3 := K1.out.trans K2
          have hsw := K1.out.size
          have b2 := K2.cell b1 (by omega)
          have F2 : IsField wc bf := hF.kt K3 (by omega)
          have O2 := Lib.hid (O1.out.kt K2 hs)
          have HC := Lib.hid (sweep_any bf lo hi g R n m c cc (sw m r bs) (sw m r cp) (Sv.swp N m r) wc T2 F2 hbf hmR hlt hn hR (Sv.swp_b hNb m r))
          have HK3 := Lib.hid K3
          clear hwc a1 a2 f1 f2 b1 z1 z2 z3 z4 T2 K2 K3 F2 T1 K1 O1 hgl
          have hs3 := HK3.out.size
          go_wp2_with (first
            | (go_at_call 26; refine HC.out.mono ?_; rintro e W5 ⟨rfl, T5, K5⟩; have b5 := K5.cell b2 (by omega); have O5 := Lib.hid (O2.out.kt K5 hs); have hs5 := K5.size; have HT5 := Lib.hid T5; have HK5 := Lib.hid (HK3.out.trans K5); clear T5 K5)
            | (at_builtin; refine wpList_append_own _ rfl (.tmp 45) (.tmp 47) 30 rfl w.heap.size 3 i0 (.int .i64 0) 1 8 Try.underlying30 hi0 hz0 hz1 hz2 rfl (by decide) (.slice A m cl) m (ints L) rfl (by rw [HM.out]; exact O5.out.alloc _) ⟨W5.heap.size, 0, none⟩ 1 1 [.int .i64 (c : Int)] rfl rfl (fun j u hj => by
                match j, hj with
                | 0, hj => simp at hj; subst hj; exact cell_new W5 _ _) (fun u hu => by simp at hu; subst hu; rfl) (by simp only [maxLen]; omega) (by omega) (by rw [World.size_alloc]; omega) ?_; intro v' w6 hown6 hgr6 _))
          obtain ⟨A', cl', rfl, hO6, hT6, hK6⟩ := OwnI.app HT5.out HK5.out hs O5.out hown6 hgr6
          have HO6 := Lib.hid hO6
          have HT6 := Lib.hid hT6
          have HK6 := Lib.hid hK6
          clear hO6 hT6 hK6 hown6 hgr6 b5 O5 HT5 HK5 b2 O2 HC
          go_wp2
          go_roundw
          case rel => exact ⟨c + 1, sw m r bs, sw m r cp, A', cl', by omega, by go_num, by rw [HRS.out], by rw [HRS.out]; exact HO6.out, by rw [HRS.out, ← HM.out]; exact HT6.out, HK6.out⟩
          case measure => simp [intOf]; omega
    · have ec : c = n := by omega
      subst ec
      have HT := Lib.hid hT
      have HK := Lib.hid hK
      have HO := Lib.hid hO
      clear hT hK hO hE HRS
      go_wp2
      go_ret
      exact ⟨bs, cp, A, cl, rfl, HO.out, HT.out, HK.out⟩
theorem red_none (M : Sv.Mx) : ∀ n, Sv.red 0 M n = (M, [])
  | 0 => rfl
  | n + 1 => by show Sv.step 0 n (Sv.red 0 M n) = _; rw [red_none M n]; exact Sv.step_miss fun i _ h => by omega
theorem reduce_zero (bf lo hi g n cc : Nat) (bs cp : Nat → Nat) (M : Sv.Mx) (w : World) (hT : Tab w lo hi g bs cp M 0 n) :
    Calls Try.prog 20 #[.pointer (some ⟨bf, 0, none⟩), .slice (some ⟨g, 0, none⟩) 0 cc] w fun e w' => RdAns w lo hi g 0 n M e w' := by
  go_enter Try.func20, Try.ntmps20
  go_wp2_with (go_at_call 18; refine (width_zero _ _ _).mono ?_; rintro e w' ⟨rfl, rfl⟩)
  go_loop [5, 12] (fun v i => v = .slice none 0 0 ∧ i = .int .i64 0) (fun _ _ => 0)
  case atStart => exact ⟨rfl, rfl⟩
  case round =>
    obtain ⟨rfl, rfl⟩ := hrel
    go_wp2
    go_ret
    refine ⟨bs, cp, none, 0, ?_, ?_, ?_, Kt.refl _ _ _⟩
    · rw [red_none]; rfl
    · rw [red_none]; exact OwnI.nil _ _ _
    · rw [red_none]; exact hT
theorem reduce_all (bf lo hi g R n cc : Nat) (bs cp : Nat → Nat) (M : Sv.Mx) (w : World) (hT : Tab w lo hi g bs cp M R n) (hF : IsField w bf) (hbf : bf < lo) (hn : n ≤ 4294967296) (hR : R ≤ 4294967296) (hM : Sv.Bm M) :
    Calls Try.prog 20 #[.pointer (some ⟨bf, 0, none⟩), .slice (some ⟨g, 0, none⟩) R cc] w fun e w' => RdAns w lo hi g R n M e w' := by
  by_cases h : R = 0
  · subst h; exact reduce_zero bf lo hi g n cc bs cp M w hT
  · exact reduce_any bf lo hi g R n cc bs cp M w hT hF hbf hn hR (by omega) hM
end Go.Proofs.Ytkgbmkbbkaifmaa
