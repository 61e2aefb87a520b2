/- Both slots, where there is no fuse: a Save on the one, then on the other. -/
import Derived.Test.YtijbpafmokbnaaaSkl
namespace Go.Proofs.Ytijbpafmokbnaaa
open Go.RowKit Go.Shelf Gw Pol
/-- Both slots: what they keep, and how many writes were done. -/
structure SW (wb : World) (z p g q B0 r u t : Nat) (K1 K2' : List Nat) (w : World) : Prop where
  sq : Sq w z p g r ⟨-1, false, u⟩ K1
  rs : ∃ k, Rs w q k B0 r ⟨-1, false, t⟩ K2'
  bel : Below wb.heap.size wb w
  b0 : B0 ≤ w.heap.size
theorem SW.below {wb w w' : World} {z p g q B0 r u t : Nat} {K1 K2' : List Nat} (h : SW wb z p g q B0 r u t K1 K2' w) (hb : Below w.heap.size w w') : SW wb z p g q B0 r u t K1 K2' w' := by
  obtain ⟨k, hr⟩ := h.rs
  exact ⟨h.sq.below hb (Nat.le_refl _), ⟨k, hr.below hb (Nat.le_refl _)⟩, h.bel.trans (hb.mono h.bel.size), Nat.le_trans h.b0 hb.size⟩
theorem SW.drew {wb w : World} {z p g q B0 r u t : Nat} {K1 K2' : List Nat} (h : SW wb z p g q B0 r u t K1 K2' w) : SW wb z p g q B0 r u t K1 K2' w.drew := h.below ⟨rfl, rfl, rfl, Nat.le_refl _, fun _ _ => rfl⟩
theorem sq_disk (a p g r : Nat) (K : List Nat) (s : Pw) (w : World) (h : Sq w a p g r s K) :
    Calls Try.prog 18 #[.pointer (some ⟨a, 0, none⟩)] w fun e w' => e = .returned (.pointer (some ⟨p, 0, none⟩)) ∧ w' = w := by
  obtain ⟨L, side, h3, h4, h5⟩ := h
  exact zdisk_any a p g r L s w h3
theorem sq_writes (a p g r : Nat) (K : List Nat) (s : Pw) (w : World) (h : Sq w a p g r s K) :
    Calls Try.prog 19 #[.pointer (some ⟨p, 0, none⟩)] w fun e w' => e = .returned (.int .i64 (s.u : Int)) ∧ w' = w := by
  obtain ⟨L, side, h3, h4, h5⟩ := h
  exact dz_writes p g _ L s w h3.dz
/-- A Save on both, one behind the other. -/
theorem sw_step (wb : World) (z p g q B0 r u : Nat) (K : List Nat) (A : Option Addr) (n c : Nat) (l : List Nat) (hn : n = l.length) (hI : In wb wb.heap.size A c l) (hc : c ≤ 140737488351232) (hu : u ≤ 8192) (hr : r ≤ 512) (hK : tk K.length ≤ r)
    (h1 : wb.heap.size ≤ z ∧ wb.heap.size ≤ p ∧ wb.heap.size ≤ g ∧ wb.heap.size ≤ q) (h2 : z < B0 ∧ p < B0 ∧ g < B0) (h3 : q ≠ z ∧ q ≠ p ∧ q ≠ g) :
    ∃ (ev : Int) (u' : Nat) (K' : List Nat), u' ≤ u + 2048 ∧ tk K'.length ≤ r ∧
      (∀ w, SW wb z p g q B0 r u u K K w → Calls Try.prog 12 #[.pointer (some ⟨z, 0, none⟩), .slice A n c] w fun e w' => e = .returned (.int .i64 ev) ∧ SW wb z p g q B0 r u' u K' K w') ∧
      (∀ w, SW wb z p g q B0 r u' u K' K w → Calls Try.prog 11 #[.pointer (some ⟨q, 0, none⟩), .agg #[.int .i64 1, .int .i64 0, .int .u8 0, .slice A n c]] w fun e w' => e = .returned (.int .i64 ev) ∧ SW wb z p g q B0 r u' u' K' K' w' ∧ (SW wb z p g q B0 r u' u' K' K' w → Below w.heap.size w w')) := by
  have hlc := hI.cap
  by_cases ht : r < tk n
  · refine ⟨7, u, K, by omega, hK, fun w h => ?_, fun w h => ?_⟩
    · refine (sq_big z p g r K _ A n c w h.sq ht (by omega)).mono ?_
      rintro e w' ⟨he, hb⟩
      exact ⟨he, h.below hb⟩
    · obtain ⟨k, hrs⟩ := h.rs
      refine (fsave_bad 0 A n c w q k B0 r _ K 0 hrs ht (by omega)).mono ?_
      rintro e w' ⟨he, hb⟩
      exact ⟨he, h.below hb, fun _ => hb⟩
  · have htl : tk l.length ≤ r := by rw [← hn]; omega
    refine ⟨0, u + (tk l.length + 1) + tk K.length, l, by omega, htl, fun w h => ?_, fun w h => ?_⟩
    · have hIw := hI.below h.bel
      refine (sq_free z p g r wb.heap.size u _ K l A n c w h.sq hIw (fun o hne => ⟨in_no hIw h1.1 hne o, in_no hIw h1.2.1 hne o, in_no hIw h1.2.2.1 hne o⟩) hn (by omega) (by omega) rfl).mono ?_
      rintro e w' ⟨he, hq, hk⟩
      obtain ⟨k, hrs⟩ := h.rs
      exact ⟨he, hq, ⟨k, hrs.k3 hk h3 h2⟩, h.bel.trans (hk.below h.bel.size h1.1 h1.2.1 h1.2.2.1), Nat.le_trans h.b0 hk.size⟩
    · have hIw := hI.below h.bel
      obtain ⟨k, hrs⟩ := h.rs
      obtain ⟨f1, f2⟩ := Pw.free (tk l.length + 1) u
      obtain ⟨f3, f4⟩ := Pw.free (tk K.length) (u + (tk l.length + 1))
      refine (fsave_yes 0 A n c w q k B0 r wb.heap.size _ K l 0 hrs h.b0 hIw hn (fun o hne => in_no hIw h1.2.2.2 hne o) (by omega) (show u < _ by omega) f1).mono ?_
      rintro e w' ⟨he, ⟨k', hk', hrs'⟩, hk⟩
      rw [f2, f3] at he
      rw [f2, f4] at hrs'
      have hkb := hrs.kb
      refine ⟨he, ⟨h.sq.k2 hk ⟨Ne.symm h3.1, Ne.symm h3.2.1, Ne.symm h3.2.2⟩ ⟨by omega, by omega, by omega⟩, ⟨k', hrs'⟩, h.bel.trans (hk.below h.bel.size h1.2.2.2 (by omega)), Nat.le_trans h.b0 hk.size⟩, fun hss => ?_⟩
      obtain ⟨k2, hrs2⟩ := hss.rs
      obtain ⟨_, _, _, hb1, _, _⟩ := hrs.box
      obtain ⟨_, _, _, hb2, _, _⟩ := hrs2.box
      have c1 := hb1.cell 2
      have c2 := hb2.cell 2
      rw [c1] at c2
      simp at c2
      omega
end Go.Proofs.Ytijbpafmokbnaaa
