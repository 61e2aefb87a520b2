/- What the statements' own with (package shamrocklaw03) does: rows, and a byte behind each, in memory of its own. -/
import Derived.Test.YtkgbmkbbkaifmaaRra
import Derived.Test.YtkgbmkbbkaifmaaLwb
import Derived.Deep.DeepCutAuto
namespace Gw
open Go Go.RowKit Go.Shelf
/-- append, of whatever one-cell values, as one step of a region that leaves its order open. -/
theorem step_appV {P : Program} {w : World} {ops : Array Oper} {o : Oper} {a : Act} {K : Act → World → Prop} {Q : Exit → Act → World → Prop} {E : Prop} (hgd : o.guard = none) (s x : Operand) (t : TypeId)
    (ho : o.op = .call { callee := .builtin .append, args := #[s, x], argTypes := #[t, t] })
    (base : Nat) (e : TypeId) (i : TypeInfo) (z : Value) (size bytes : Nat) (ht : P.underlying t = some (.slice e)) (hi : P.info? e = some i) (hz : i.zero = some z)
    (hsize : i.size = size) (hby : i.bytes = bytes) (hzs : z.cells.size = size) (hsz : 0 < size)
    (v : Value) (n : Nat) (xs : List Value) (hs : a.eval s = v) (hown : w.ownsRow base e size v n xs)
    (ad : Addr) (m c : Nat) (news : List Value) (hx : a.eval x = .slice (some ad) m c) (hl : news.length = m * size) (hnews : ∀ j u, news[j]? = some u → w.cell? (ad.add j) = some u) (h1 : ∀ u ∈ news, u.oneCell' = true)
    (h63 : n + m ≤ maxLen) (hbytes : (n + m) * bytes ≤ 140737488355328) (hbase : base ≤ w.heap.size)
    (h : ∀ v' w', w'.ownsRow base e size v' (n + m) (xs ++ news) → w.grownBy w' v.ownBlock → K (a.put o.dst v') w') : if Region.wanted o (yielded ops a.tmps) = true then Oper.wp P o a w K Q else E := by
  have hw : Region.wanted o (yielded ops a.tmps) = true := by simp [Region.wanted, hgd]
  rw [if_pos hw]
  exact wp_append_own w s x t ho base e i z size bytes ht hi hz hsize hby hzs hsz v n xs hs hown ad m c news hx hl hnews h1 h63 hbytes hbase fun v' w' h2 h3 _ => h v' w' h2 h3
theorem bel_app1 {wr W w2 : World} {p : Nat} (hW : Below wr.heap.size wr W) (hg : W.grownBy w2 (Value.slice (some ⟨p, 0, none⟩) 0 0).ownBlock) (hp : wr.heap.size ≤ p) : Below wr.heap.size wr w2 :=
  hW.grown hg hW.size (fun k hk => by simp [Value.ownBlock] at hk; omega)
theorem sl_cell {w : World} {B p y : Nat} (h : w.cell? ⟨p, 0, none⟩ = some (.int .u8 (y : Int))) (hy : y < 256) (hB : w.heap.size ≤ B) : Sl w B (some ⟨p, 0, none⟩) [y] := fun i x hx => by
  cases i with
  | zero => simp at hx; subst hx; exact ⟨hy, p, 0, rfl, Nat.lt_of_lt_of_le (cell_lt h) hB, h⟩
  | succ i => simp at hx
/-- '[]byte{}' behind another block. -/
theorem Own.lit1 (w : World) (e : TypeId) (o : Obj) : Own ((w.alloc o).alloc (.cells #[] e)) w.heap.size e (some ⟨w.heap.size + 1, 0, none⟩) 0 [] := by
  have := Own.lit0 (w.alloc o) w.heap.size e (by simp)
  rw [World.size_alloc] at this
  exact this
theorem cell_two (w : World) (o : Obj) (v : Value) (t : TypeId) : ((w.alloc o).alloc (.cells #[v] t)).cell? ⟨w.heap.size + 1, 0, none⟩ = some v := by
  have := cell_new (w.alloc o) v t
  rw [World.size_alloc] at this
  exact this
theorem cell_one (w : World) (o : Obj) (v : Value) (t : TypeId) : ((w.alloc (.cells #[v] t)).alloc o).cell? ⟨w.heap.size, 0, none⟩ = some v := by
  rw [World.cell?_alloc_lt _ _ _ (by simp)]; exact cell_new w v t
end Gw
namespace Go.Proofs.Ytkgbmkbbkaifmaa
open Go.RowKit Go.Shelf Gw Pol
/-- Row i, and a byte behind it. -/
def wth (l : Nat → List Nat) (b : List Nat) : Nat → List Nat := fun i => l i ++ [co b i]
def WtRel (w : World) (n R : Nat) (l : Nat → List Nat) (b : List Nat) (v i : Value) (wr : World) : Prop :=
  ∃ (k : Nat) (pa : Nat → Option Addr) (cp : Nat → Nat), k ≤ R ∧ i = .int .i64 (k : Int) ∧ Grow w wr 23 5 v (n + 1) k pa cp (wth l b)

set_option maxRecDepth 100000 in
set_option maxHeartbeats 8000000 in
theorem with_any (A Ab : Option Addr) (c R n cb : Nat) (A' : Nat → Option Addr) (c' : Nat → Nat) (l : Nat → List Nat) (b : List Nat) (w : World) (h : MIn w w.heap.size A c R A' c' l) (hI : In w w.heap.size Ab cb b)
    (hn : ∀ i, i < R → (l i).length = n) (hb : b.length = R) (hR : R ≤ 1073741824) (hnm : n ≤ 1073741824) :
    Calls Try.prog 13 #[.slice A R c, .slice Ab R cb] w fun e w' =>
      ∃ A2 c2 pa cp, e = .returned (.slice A2 R c2) ∧ MIn w' w'.heap.size A2 c2 R pa cp (wth l b) ∧ Below w.heap.size w w' := by
  obtain ⟨i0, hi0, hz0, hz1, hz2⟩ := info_parts pbyte_info
  obtain ⟨i1, hj0, hj1, hj2, hj3⟩ := info_parts prow_info
  have hcap := h.cap
  have HN := Lib.hid hn
  have HB := Lib.hid hb
  clear hn hb
  go_enter Try.func13, Try.ntmps13
  go_wp2
  go_loopw [5, 6] (WtRel w n R l b) (fun _ i _ => R - (intOf i).toNat)
  case atStart => exact ⟨0, _, _, Nat.zero_le _, rfl, Grow.start _ _ _ _ _⟩
  case round =>
    obtain ⟨k, pa, cp, hk, rfl, hG⟩ := hrel
    by_cases hlt : k < R
    · have hs := hG.bel.size
      obtain ⟨b0, off0, rfl, hb0, hc0, hIk⟩ := (h.below hG.bel).rd k hlt
      obtain ⟨bb, ob, rfl, hbb, hcb, hy2⟩ := (hI.below hG.bel).byte (j := k) (by rw [HB.out]; exact hlt)
      have hcap2 := hI.cap
      rw [HB.out] at hcap2
      rw [HN.out k hlt] at hc0
      obtain ⟨y, hy⟩ : ∃ y, y = co b k := ⟨_, rfl⟩
      rw [← hy] at hcb hy2
      have HY := Lib.hid hy
      clear hy
      have q1 : ∀ o, (wr.alloc o).cell? ⟨b0, off0 + k, none⟩ = some (.slice (A' k) n (c' k)) := fun o => (World.cell?_alloc_lt wr o _ (by show b0 < _; omega)).trans hc0
      have q3 : ∀ o, (wr.alloc o).cell? ⟨bb, ob + k, none⟩ = some (.int .u8 (y : Int)) := fun o => (World.cell?_alloc_lt wr o _ (by show bb < _; omega)).trans hcb
      have HIk := Lib.hid hIk
      have HG := Lib.hid hG
      clear hIk hG
      have q2 : ∀ o o', ((wr.alloc o).alloc o').cell? ⟨b0, off0 + k, none⟩ = some (.slice (A' k) n (c' k)) := fun o o' => (World.cell?_alloc_lt _ o' _ (by rw [World.size_alloc]; show b0 < _; omega)).trans (q1 o)
      have q4 : ∀ o o', ((wr.alloc o).alloc o').cell? ⟨bb, ob + k, none⟩ = some (.int .u8 (y : Int)) := fun o o' => (World.cell?_alloc_lt _ o' _ (by rw [World.size_alloc]; show bb < _; omega)).trans (q3 o)
      have HLN : Hid ((l k ++ [y]).length = n + 1) := Lib.hid (by rw [List.length_append, HN.out k hlt]; rfl)
      go_wp2
      go_region_law (first
        | (refine step_app rfl (.tmp 14) (.tmp 18) 23 rfl wr.heap.size 5 i0 _ Try.underlying23 hi0 hz0 hz1 hz2 rfl _ 0 0 [] (by first | rfl | (simp [Act.eval]; done) | (simp [Act.eval, Act.put]; done)) rfl ?_ w.heap.size (A' k) n (c' k) (l k) (by first | rfl | (simp [Act.eval]; done) | (simp [Act.eval, Act.put]; done)) (HN.out k hlt).symm HIk.out.none_ ?_ (by rw [HN.out k hlt]; simp; omega) ?_ ?_
           · first | exact (Own.lit0 wr wr.heap.size 5 (Nat.le_refl _)).drewN 1 | exact ((Own.lit0 wr wr.heap.size 5 (Nat.le_refl _)).alloc _).drewN 1 | exact (Own.lit1 wr 5 _).drewN 1
           · first | exact (HIk.out.sl.alloc hs _).drewN 1 | exact ((HIk.out.sl.alloc hs _).alloc (by rw [World.size_alloc]; omega) _).drewN 1
           · first | (show _ ≤ (wr.alloc _).heap.size; rw [World.size_alloc]; omega) | (show _ ≤ ((wr.alloc _).alloc _).heap.size; rw [World.size_alloc, World.size_alloc]; omega)
           intro A2 c2 w2 hown2 hgr2
           have hB2 : Below wr.heap.size wr w2 := bel_app1 (by first | exact Gw.Below.drewN ((Below.refl wr.heap.size wr).alloc (Nat.le_refl _) _) 1 | exact Gw.Below.drewN (((Below.refl wr.heap.size wr).alloc (Nat.le_refl _) _).alloc (by rw [World.size_alloc]; omega) _) 1) hgr2 (by omega)
           have hO2 : Gw.Own w2 wr.heap.size 5 A2 c2 (l k) := hown2
           have hcb2 := (hB2.cell (p := ⟨bb, ob + k, none⟩) (by show bb < _; omega)).trans hcb
           rw [List.nil_append, HN.out k hlt])
        | (refine step_app rfl (.tmp 19) (.tmp 24) 23 rfl wr.heap.size 5 i0 _ Try.underlying23 hi0 hz0 hz1 hz2 rfl A2 n c2 (l k) (by first | rfl | (simp [Act.eval]; done) | (simp [Act.eval, Act.put]; done)) (HN.out k hlt).symm ?_ (w2.heap.size + 1) _ 1 1 [y] (by first | rfl | (simp [Act.eval]; done) | (simp [Act.eval, Act.put]; done)) rfl (fun h => by cases h) ?_ (by rw [HN.out k hlt]; simp; omega) ?_ ?_
           · first | exact hO2 | exact hO2.alloc _
           · first | exact Sl.one w2 5 y hy2 | exact sl_cell (hgr2.cell (cell_two wr _ (.int .u8 (y : Int)) 5) (fun e => by simp [Value.ownBlock] at e <;> omega)) hy2 (by omega) | exact sl_cell (hgr2.cell (cell_one wr _ (.int .u8 (y : Int)) 5) (fun e => by simp [Value.ownBlock] at e <;> omega)) hy2 (by omega)
           · first | exact hB2.size | (rw [World.size_alloc]; have := hB2.size; omega)
           intro A3 c3 w3 hown3 hgr3
           have hB3 : Below wr.heap.size wr w3 := by first | exact below_app0 hB2 hB2.size hO2 hgr3 | exact below_app hB2 hB2.size hO2 hgr3
           rw [HLN.out])
        | (refine step_appV rfl (.tmp 13) (.tmp 26) 22 rfl w.heap.size 23 i1 (.slice none 0 0) 1 24 Try.underlying22 hj0 hj1 hj2 hj3 rfl (by decide) _ k (rvs pa cp (n + 1) k) (by first | rfl | (simp [Act.eval]; done) | (simp [Act.eval, Act.put]; done)) ((HG.out.own2 hB3).alloc _) ⟨w3.heap.size, 0, none⟩ 1 1 [.slice A3 (n + 1) c3] (by first | rfl | (simp [Act.eval]; done) | (simp [Act.eval, Act.put]; done)) rfl (fun j u hj => by
              match j, hj with
              | 0, hj => simp at hj; subst hj; exact cell_new w3 _ _) (fun u hu => by simp at hu; subst hu; rfl) (by simp only [maxLen]; omega) (by omega) (by rw [World.size_alloc]; have := hB3.size; omega) ?_
           intro v' w4 hown4 hgr4
           have hfin := HG.out.step (by decide) hB3 (show Gw.Own w3 wr.heap.size 5 A3 c3 (wth l b k) by unfold wth; rw [← HY.out]; exact hown3) _ hown4 hgr4))
      all_goals (
        have HG' := Lib.hid hfin
        clear hfin q1 q2 q3 q4 hcb hc0 hcb2 hown2 hgr2 hO2 hown3 hgr3 hown4 hgr4
        go_wp2
        go_roundw
        case rel => exact ⟨k + 1, _, _, by omega, by go_num, HG'.out⟩
        case measure => simp [intOf]; omega)
    · obtain rfl : R = k := by omega
      obtain ⟨A2, c2, rfl, hM⟩ := hG.min (fun i hi => by unfold wth; rw [List.length_append, HN.out i hi]; rfl)
      have HM := Lib.hid hM
      have HB2 := Lib.hid hG.bel
      clear hM hG
      go_wp2
      go_ret
      exact ⟨A2, c2, pa, cp, rfl, HM.out, HB2.out⟩
end Go.Proofs.Ytkgbmkbbkaifmaa
