/- What sha's wordBytes does: the words' bytes. -/
import Derived.Test.YtfemcofjhcanhaaDoorShe
namespace Gw
open Go Go.RowKit Go.Shelf
/-- A new block of bytes, as a slice. -/
theorem Sl.lit (w : World) (e : TypeId) (l : List Nat) (h : Pol.BB l) : Sl (w.alloc (.cells (bys l).toArray e)) (w.heap.size + 1) (some ⟨w.heap.size, 0, none⟩) l := fun i x hx =>
  ⟨h x (List.mem_of_getElem? hx), w.heap.size, 0, rfl, by omega, by
    rw [World.cell?_alloc_new, Nat.zero_add, List.getElem?_toArray]; exact bys_at hx⟩
end Gw
namespace Go.Proofs.YtfemcofjhcanhaaDoor
open Go.RowKit Go.Shelf Gw Pol Sh
theorem run_index8 (L : List Nat) (k x : Nat) (hk : k < 8) (hx : (u32v L)[k]? = some (.int .u32 (x : Int))) (w : World) : (Instr.index 36 (.agg (u32v L)) (.int .i64 (k : Int))).run Tryd.prog w = .ok (.int .u32 (x : Int)) w := by
  simp [Instr.index, run_underlying Tryd.underlying36, asIntOf, part, Tryd.isAgg35, Tryd.sizeOf35, hx, go_sem]
  intro h; omega
def WbRel (w : World) (L : List Nat) (v i : Value) (wr : World) : Prop := ∃ (k n c : Nat) (A : Option Addr), k ≤ 8 ∧ i = .int .i64 (k : Int) ∧ v = .slice A n c ∧ n = (outs L k).length ∧ Gw.Own wr w.heap.size 5 A c (outs L k) ∧ Below w.heap.size w wr
set_option maxRecDepth 100000 in
set_option maxHeartbeats 2000000 in
theorem wordBytes_any (s : St) (hs : s.Ok) (w : World) :
    Calls Tryd.prog 19 #[.agg (u32v s.l)] w fun e w' => ∃ A2 c2, e = .returned (.slice A2 32 c2) ∧ Gw.Own w' w.heap.size 5 A2 c2 (outs s.l 8) ∧ Below w.heap.size w w' := by
  obtain ⟨i0, hi0, hz0, hz1, hz2⟩ := info_parts byte_info
  have HW := Lib.hid (Wa.new w 36 s.l)
  obtain ⟨L, hL⟩ : ∃ L, L = s.l := ⟨_, rfl⟩
  have hLl : L.length = 8 := by rw [hL]; rfl
  have hLb : ∀ x ∈ L, x < 4294967296 := by
    rw [hL]
    obtain ⟨h1, h2, h3, h4, h5, h6, h7, h8⟩ := hs
    intro x hx
    simp only [St.l, List.mem_cons, List.not_mem_nil, or_false] at hx
    rcases hx with rfl | rfl | rfl | rfl | rfl | rfl | rfl | rfl <;> assumption
  have HI8 := Lib.hid (show (Tryd.prog.info? 36).map (·.size) = some (u32v L).size by rw [u32v_size, hLl]; exact arr8_info)
  rw [← hL] at HW ⊢
  clear hL hs
  go_enter Tryd.func19, Tryd.ntmps19
  go_wp2_with (first | (at_make; refine wpList_make_own _ rfl _ _ 22 rfl w.heap.size 5 i0 _ 1 Tryd.underlying22 hi0 hz0 hz1 _ _ _ 32 rfl rfl (by omega) (by rw [hz2]; omega) (by simp [maxLen]) (by simp) ?_; intro w1 hown hgr) | (refine wpList_load_row rfl 36 (.tmp 1) rfl w.heap.size rfl 36 (u32v L) (0, 0) _ (HW.out.by_ hgr (by intro h; cases h)) Tryd.underlying36 rfl HI8.out ?_) | fail)
  rw [World.size_alloc] at hown
  have hO0 : Gw.Own w1 w.heap.size 5 (some ⟨w.heap.size + 1, 0, none⟩) 32 [] := ⟨hown, BB.nil⟩
  have hB0 : Below w.heap.size w w1 := ((Below.refl _ w).alloc (Nat.le_refl _) _).grown hgr (by simp) (fun k hk => by cases hk)
  clear hown hgr HW
  go_loopw [3, 8] (WbRel w L) (fun _ i _ => 8 - (intOf i).toNat)
  case atStart => exact ⟨0, 0, 32, some ⟨w.heap.size + 1, 0, none⟩, by omega, rfl, rfl, rfl, hO0, hB0⟩
  case round =>
    clear hO0 hB0
    obtain ⟨k, n, c, A, hk, rfl, rfl, hn, hown, hbel⟩ := hrel
    by_cases hk8 : k < 8
    · have hget := u32v_get (L := L) (k := k) (by omega)
      have hxb := co_lt' hLb k
      have HO := Lib.hid (show outs L (k + 1) = outs L k ++ bs (co L k) from rfl)
      obtain ⟨x, hx⟩ : ∃ x, x = co L k := ⟨_, rfl⟩
      rw [← hx] at hget hxb HO
      have hidx := run_index8 L k x hk8 hget
      obtain ⟨y0, hy0⟩ : ∃ y, y = x / 16777216 % 256 := ⟨_, rfl⟩
      obtain ⟨y1, hy1⟩ : ∃ y, y = x / 65536 % 256 := ⟨_, rfl⟩
      obtain ⟨y2, hy2⟩ : ∃ y, y = x / 256 % 256 := ⟨_, rfl⟩
      obtain ⟨y3, hy3⟩ : ∃ y, y = x % 256 := ⟨_, rfl⟩
      have e0 : (x : Int) / 16777216 = (y0 : Int) := by omega
      have e1 : (x : Int) / 65536 % 256 = (y1 : Int) := by omega
      have e2 : (x : Int) / 256 % 256 = (y2 : Int) := by omega
      have e3 : (x : Int) % 256 = (y3 : Int) := by omega
      have hbs : bs x = [y0, y1, y2, y3] := by rw [bs, ← hy0, ← hy1, ← hy2, ← hy3]
      have hb4 : BB [y0, y1, y2, y3] := by rw [← hbs]; exact bs_bb x
      rw [hbs] at HO
      have HN := Lib.hid hn
      have HLE := Lib.hid (outs_len L k)
      have HOW := Lib.hid (hown.alloc (.cells #[.int .u8 (y0 : Int), .int .u8 (y1 : Int), .int .u8 (y2 : Int), .int .u8 (y3 : Int)] 5))
      have HSL := Lib.hid (show Sl (wr.alloc (.cells #[.int .u8 (y0 : Int), .int .u8 (y1 : Int), .int .u8 (y2 : Int), .int .u8 (y3 : Int)] 5)) (wr.heap.size + 1) (some ⟨wr.heap.size, 0, none⟩) [y0, y1, y2, y3] from Sl.lit wr 5 _ hb4)
      have HOWN := Lib.hid hown
      clear hx hget hy0 hy1 hy2 hy3 hbs hb4 hn hown
      go_wp2_with (first | (at_builtin; refine wpList_app rfl (.tmp 11) (.tmp 23) 22 rfl w.heap.size 5 i0 _ Tryd.underlying22 hi0 hz0 hz1 hz2 rfl A n c (outs L k) rfl HN.out HOW.out (wr.heap.size + 1) (some ⟨wr.heap.size, 0, none⟩) 4 4 [y0, y1, y2, y3] rfl rfl (fun h => by cases h) HSL.out (by rw [HLE.out]; simp; omega) (by rw [World.size_alloc]; exact Nat.le_succ_of_le hbel.size) ?_; intro A2 c2 w2 hown2 hgr2) | fail)
      have hb2 := Lib.hid (below_app hbel hbel.size HOWN.out hgr2)
      rw [← HO.out] at hown2
      have HO2 := Lib.hid hown2
      clear hown2 hgr2
      go_roundw
      case rel => exact ⟨k + 1, _, c2, A2, by omega, by go_num, rfl, by rw [HO.out, List.length_append]; rfl, HO2.out, hb2.out⟩
      case measure => simp [intOf]; omega
    · obtain rfl : k = 8 := by omega
      have HN := Lib.hid hn
      clear hn
      go_wp2
      go_ret
      exact ⟨A, c, by rw [show 32 = n by rw [HN.out, outs_len]]; rfl, hown, hbel⟩
end Go.Proofs.YtfemcofjhcanhaaDoor
