/- What mac's keyBlock does: the key, or its sum where it is longer than a block, and noughts. -/
import Derived.Test.YtfemcofjhcanhaaDoorMam
import Derived.Test.YtfemcofjhcanhaaDoorShg
namespace Gw
open Go Go.RowKit Go.Shelf Pol
/-- Block g is an array of bytes. -/
def Ba (w : World) (g : Nat) (t : TypeId) (L : List Nat) : Prop := w.heap[g]? = some (.cells (bys L).toArray t (0, 0))
section
variable {w w' : World} {g : Nat} {t : TypeId} {L : List Nat}
theorem Ba.lt (h : Ba w g t L) : g < w.heap.size := (Array.getElem?_eq_some_iff.1 h).1
theorem Ba.below {B : Nat} (h : Ba w g t L) (hb : Below B w w') (hB : g < B) : Ba w' g t L := (hb.block g hB).trans h
theorem Ba.alloc (h : Ba w g t L) (o : Obj) : Ba (w.alloc o) g t L := by
  show (w.heap.push o)[g]? = _; rw [Array.getElem?_push, if_neg (Nat.ne_of_lt h.lt)]; exact h
theorem Ba.by_ {r : Option Nat} (h : Ba w g t L) (hg : w.grownBy w' r) (hr : r ≠ some g) : Ba w' g t L :=
  (hg.block g h.lt (fun e => hr e.symm)).trans h
theorem Ba.drewN (h : Ba w g t L) (n : Nat) : Ba (w.drewN n) g t L := h
theorem Ba.new (w : World) (t : TypeId) (L : List Nat) : Ba (w.alloc (.cells (bys L).toArray t)) w.heap.size t L := heap_alloc_new w _
theorem bysA_one (L : List Nat) : (bys L).toArray.all (·.oneCell') = true := by
  rw [Array.all_eq_true_iff_forall_mem]
  intro u hu
  exact bys_one L u (by simpa using hu)
theorem bysA_size (L : List Nat) : (bys L).toArray.size = L.length := by simp [bys_len]
end
/-- 'copy' onto an array of noughts. -/
theorem run_copyA {P : Program} {w : World} (t ty e ta : TypeId) (hu : P.underlying t = some (.slice e)) (hs : (P.info? e).map (·.size) = some 1) (g n m c : Nat) {A : Option Addr} {B : Nat} {p : List Nat} (hp : Sl w B A p) (hg : Ba w g ta (List.replicate n 0)) (hm : m = p.length) (hn : m ≤ n) :
    ∃ w2, (Builtin.copy_ #[t, t] ty #[.slice (some ⟨g, 0, none⟩) n n, .slice A m c]).run P w = .ok (.int .i64 (m : Int)) w2 ∧
      Ba w2 g ta (p ++ List.replicate (n - p.length) 0) ∧ w.grownBy w2 (some g) := by
  subst hm
  by_cases h0 : p.length = 0
  · have hr := run_copy_none (P := P) w t t ty e (some ⟨g, 0, none⟩) A n n p.length c hu hs (by rw [h0]; exact Nat.zero_min _)
    refine ⟨_, hr.trans (by rw [h0]; rfl), ?_, World.grownBy.refl _ _⟩
    have hp0 : p = [] := List.eq_nil_of_length_eq_zero h0
    subst hp0
    exact hg
  · obtain ⟨x, b, off, hx, _, rfl, hb, _⟩ := hp.at_ (k := 0) (by omega)
    have hr := run_copy_row (P := P) w t t ty e g 0 n n ⟨b, off, none⟩ p.length c _ ta (bys p) hu hs hg (by rw [bys_len]; exact (Nat.min_eq_left hn).symm) (fun j v hj => by
      obtain ⟨y, hy, rfl⟩ := bys_get hj
      obtain ⟨_, b', off', e', hb', hc'⟩ := hp j y hy
      injection e' with e'
      injection e' with e1 e2
      subst e1 e2
      rw [addr_add]
      exact hc') (by simp [bys_len]; exact hn) (bys_one p)
    have hgr : ∀ cs, w.grownBy (w.setRow g cs) (some g) := fun cs => ⟨rfl, rfl, rfl, by simp, fun k _ hk => setRow_other w g k _ (fun e => hk (by rw [e]))⟩
    refine ⟨_, hr.trans (by rw [bys_len]; rfl), ?_, hgr _⟩
    unfold Ba
    rw [setRow_heap _ _ _ _ _ _ hg]
    have e1 : splice (bys (List.replicate n 0)) 0 (bys p) = bys (p ++ List.replicate (n - p.length) 0) := by
      unfold splice
      rw [List.take_zero, List.nil_append, bys_len, Nat.zero_add, bys_app]
      congr 1
      unfold bys
      rw [← List.map_drop, List.drop_replicate]
    rw [← e1]
    simp [splice, bys_len]
end Gw
namespace Go.Proofs.YtfemcofjhcanhaaDoor
open Go.RowKit Go.Shelf Gw Pol Sh
/-- 64 noughts. -/
def z64 : List Nat := List.replicate 64 0
theorem arrB_info : (Tryd.prog.info? 28).map (·.size) = some 64 := by kernel_rfl
theorem zeroB (w : World) : (zeroValue 28).run Tryd.prog w = .ok (.agg (bys z64).toArray) w := by kernel_rfl
set_option maxRecDepth 100000 in
set_option maxHeartbeats 2000000 in
theorem keyBlock_any (A : Option Addr) (c n : Nat) (k : List Nat) (w : World) (hn : n = k.length) (hI : In w w.heap.size A c k) (hcm : k.length ≤ 140737488355328) (hK : KT w) :
    Calls Tryd.prog 12 #[.slice A n c] w fun e w' => e = .returned (.agg (bys (mb k)).toArray) ∧ Below w.heap.size w w' := by
  have hn2 : n ≤ 140737488355328 := by omega
  have HN := Lib.hid hn
  have HIA := Lib.hid (show (Tryd.prog.info? 28).map (·.size) = some (bys (mb k)).toArray.size by rw [bysA_size, mb_len]; exact arrB_info)
  have HSZ := Lib.hid (show (bys z64).toArray.size = (bys (mb k)).toArray.size by rw [bysA_size, bysA_size, mb_len]; rfl)
  have HB1 := Lib.hid (show Below w.heap.size w (w.alloc (.cells (bys z64).toArray 28)) from (Below.refl _ w).alloc (Nat.le_refl _) _)
  have HR1 := Lib.hid (Ba.new w 28 z64)
  have hzz := zeroB
  by_cases h64 : 64 < k.length
  · have HMK := Lib.hid (show mk k = sum k by rw [mk, if_pos h64])
    have HT := Lib.hid (sum_any A c n k (w.alloc (.cells (bys z64).toArray 28)) hn ((hI.below HB1.out).more HB1.out.size) hcm (hK.to HB1.out))
    have hgt : (64 : Int) < (n : Int) := by omega
    clear hn h64 hI hK hcm
    go_enter Tryd.func12, Tryd.ntmps12
    go_wp2_with fail
    refine HT.out.mono ?_
    rintro e w3 ⟨A3, c3, rfl, hown3, hB3⟩
    have hs1 := HB1.out.size
    have hR3 := HR1.out.below hB3 HR1.out.lt
    have hb3 := HB1.out.trans (hB3.mono hs1)
    have hs3 := hb3.size
    have hB4 : Below w.heap.size w (w3.alloc (.cells (bys z64).toArray 28)) := hb3.alloc hs3 _
    have hR4 := Ba.alloc hR3 (.cells (bys z64).toArray 28)
    have hnew := Ba.new (w3) 28 z64
    obtain ⟨w5, hcp, hBa, hgr⟩ := run_copyA (P := Tryd.prog) 22 3 5 28 Tryd.underlying22 byte_size (w3).heap.size 64 32 c3 ((hown3.sl).alloc (Nat.le_refl _) (.cells (bys z64).toArray 28)) (show Ba _ _ _ (List.replicate 64 0) from hnew) (show 32 = (sum k).length from (sum_len k).symm) (by omega)
    have HR5 := Lib.hid (hR4.by_ hgr (by intro h; injection h with h; exact absurd hR3.lt (by omega)))
    have HB5 := Lib.hid (hB4.grown hgr hB4.size (fun j e => by injection e with e; omega))
    have HBA := Lib.hid (show Ba w5 (w3).heap.size 28 (mb k) by rw [mb, HMK.out]; exact hBa)
    have HRR := Lib.hid (setRow_heap w5 w.heap.size (bys z64).toArray (bys (mb k)).toArray 28 (0, 0) HR5.out)
    clear hBa hgr hR4 hnew hB4
    go_wp2_with (first | (refine wpList_load_row rfl 28 (.tmp 3) rfl _ rfl _ _ _ _ HBA.out Tryd.underlying28 rfl HIA.out ?_) | (refine wpList_store_row rfl 28 (.tmp 2) (.tmp 12) rfl _ _ rfl rfl _ _ HR5.out HIA.out HSZ.out (bysA_one _) ?_) | fail)
    refine bodyPost_ret (results_cell_row rfl _ _ _ _ _ _ _ rfl HRR.out Tryd.underlying28 rfl HIA.out) rfl ?_
    exact ⟨rfl, below_setRow HB5.out (Nat.le_refl _) _⟩
  · have HMK := Lib.hid (show mk k = k by rw [mk, if_neg h64])
    have hle : ¬ (64 : Int) < (n : Int) := by omega
    have hn64 : n ≤ 64 := by omega
    have HI1 := Lib.hid (hI.below HB1.out)
    have hR3 := HR1.out
    have hb3 := HB1.out
    have hs3 := hb3.size
    clear hn h64 hI hK hcm
    go_enter Tryd.func12, Tryd.ntmps12
    have hB4 : Below w.heap.size w ((w.alloc (.cells (bys z64).toArray 28)).alloc (.cells (bys z64).toArray 28)) := hb3.alloc hs3 _
    have hR4 := Ba.alloc hR3 (.cells (bys z64).toArray 28)
    have hnew := Ba.new ((w.alloc (.cells (bys z64).toArray 28))) 28 z64
    obtain ⟨w5, hcp, hBa, hgr⟩ := run_copyA (P := Tryd.prog) 22 3 5 28 Tryd.underlying22 byte_size ((w.alloc (.cells (bys z64).toArray 28))).heap.size 64 n c ((HI1.out.sl.more HB1.out.size).alloc (Nat.le_refl _) (.cells (bys z64).toArray 28)) (show Ba _ _ _ (List.replicate 64 0) from hnew) (show n = (k).length from HN.out) (hn64)
    have HR5 := Lib.hid (hR4.by_ hgr (by intro h; injection h with h; exact absurd hR3.lt (by omega)))
    have HB5 := Lib.hid (hB4.grown hgr hB4.size (fun j e => by injection e with e; omega))
    have HBA := Lib.hid (show Ba w5 ((w.alloc (.cells (bys z64).toArray 28))).heap.size 28 (mb k) by rw [mb, HMK.out]; exact hBa)
    have HRR := Lib.hid (setRow_heap w5 w.heap.size (bys z64).toArray (bys (mb k)).toArray 28 (0, 0) HR5.out)
    rw [World.size_alloc] at HBA hcp
    clear hBa hgr hR4 hnew hB4
    go_wp2_with (first | (refine wpList_load_row rfl 28 (.tmp 3) rfl _ rfl _ _ _ _ HBA.out Tryd.underlying28 rfl HIA.out ?_) | (refine wpList_store_row rfl 28 (.tmp 2) (.tmp 12) rfl _ _ rfl rfl _ _ HR5.out HIA.out HSZ.out (bysA_one _) ?_) | fail)
    refine bodyPost_ret (results_cell_row rfl _ _ _ _ _ _ _ rfl HRR.out Tryd.underlying28 rfl HIA.out) rfl ?_
    exact ⟨rfl, below_setRow HB5.out (Nat.le_refl _) _⟩
end Go.Proofs.YtfemcofjhcanhaaDoor
