/- What poly's Div does where there is nothing to take off, and what it does at all. -/
import Derived.Test.YtmcfkgjkfceomaaPpd
namespace Go.Proofs.Ytmcfkgjkfceomaa
open Go.RowKit Go.Shelf Gw Pol

theorem pdiv_apart {w : World} {base g o c : Nat} {e : TypeId} {A : Option Addr} {l : List Nat} (h : Gw.Own w base e A c l) (hA : A = some ⟨g, o, none⟩) : g < w.heap.size := by
  subst hA; exact h.lt.2
set_option maxRecDepth 100000 in
set_option maxHeartbeats 2000000 in
theorem pdiv_short (bf : Nat) (A A' : Option Addr) (c c' : Nat) (p d : List Nat) (w : World) (hp : In w w.heap.size A c p) (hd : In w w.heap.size A' c' d) (hshort : (tr p).length < (tr d).length) (hcm : p.length ≤ 140737488355328) (hcm2 : d.length ≤ 140737488355328) :
    Calls Try.prog 30 #[.pointer (some ⟨bf, 0, none⟩), .slice A p.length c, .slice A' d.length c'] w fun e w' => DivAns w p d e w' := by
  have T1 := Lib.hid (ptrim_any A' c' d w w.heap.size hd hcm2)
  have T2 := Lib.hid (ptrim_any A c p w w.heap.size hp hcm)
  have T3 := Lib.hid (clone_any A c (tr p) w hp.tr (Nat.le_trans (tr_len p) hcm))
  have l1 := tr_len p
  have l2 := tr_len d
  have HD := Lib.hid ((DivAt.start (d := tr d) hp.tr.bb 0 (by omega)).done (fun e => by rw [e] at hshort; simp at hshort) (by simp; omega))
  obtain ⟨P, hPe⟩ : ∃ P, P = tr p := ⟨_, rfl⟩
  rw [← hPe] at T2 T3 l1 HD hshort
  clear hp hd hPe
  obtain ⟨n, hn⟩ : ∃ n, n = P.length := ⟨_, rfl⟩
  obtain ⟨m, hm⟩ : ∃ m, m = (tr d).length := ⟨_, rfl⟩
  rw [← hn] at T2 T3 l1 hshort
  rw [← hm] at T1 l2 hshort
  have HN := Lib.hid hn
  clear hn hm
  have hm0 : ((m : Int) == 0) = false := beq_eq_false_iff_ne.2 (by omega)
  obtain ⟨t, ht⟩ : ∃ t, t = m - 1 := ⟨_, rfl⟩
  have ht1 : (m : Int) - 1 = (t : Int) := by omega
  have hnt : n < t ∨ n = t := by omega
  have hmk := run_make_row' (P := Try.prog) 22 5 (.int .u8 0) 1 Try.underlying22 pbyte_info rfl .i64 .i64 0 (by omega) (by omega)
  rw [show ((0 : Nat) : Int) = 0 from rfl] at hmk
  clear ht
  rcases hnt with hnt | hnt
  · have hneg : (n : Int) - (t : Int) < 0 := by omega
    go_enter Try.func30, Try.ntmps30
    go_wp2_with fail
    refine T1.out.mono ?_
    rintro e w' ⟨rfl, rfl⟩
    go_wp2_with fail
    refine T2.out.mono ?_
    rintro e w' ⟨rfl, rfl⟩
    go_wp2_with fail
    refine T3.out.mono ?_
    rintro e w1 ⟨Ar, cr, rfl, hownr, hb1⟩
    have hb1s := hb1.size
    go_wp2
    clear hmk
    have hown1 := hownr.alloc (.cells (madeCells #[.int .u8 0] 0) 5)
    have hownq := (Own.made w1 5 0 (by omega)).base hb1s
    have hb2 := hb1.alloc hb1s (.cells (madeCells #[.int .u8 0] 0) 5)
    have hap : ∀ g o o' : Nat, some (⟨w1.heap.size, 0, none⟩ : Addr) = some ⟨g, o, none⟩ → Ar ≠ some ⟨g, o', none⟩ := fun g o o' e e' => by
      injection e with e; injection e with e1; subst e1; have := pdiv_apart hownr e'; omega
    have HAP := Lib.hid hap
    clear hap hownr
    obtain ⟨W0, hW0⟩ : ∃ W0, W0 = w1.alloc (.cells (madeCells #[.int .u8 0] 0) 5) := ⟨_, rfl⟩
    rw [← hW0] at hown1 hownq hb2 ⊢
    have HI := Lib.hid hown1.inn
    have HO1 := Lib.hid hown1.tr
    have HO2 := Lib.hid hownq
    clear hW0 hown1 hownq
    go_loopw [10] (fun i wr => i = .int .i64 (-1) ∧ wr = W0) (fun _ _ => 0)
    case atStart => exact ⟨rfl, rfl⟩
    case round =>
      obtain ⟨rfl, rfl⟩ := hrel
      go_wp2_with fail
      refine (ptrim' Ar cr n P _ _ HN.out HI.out (by rw [← HN.out]; omega)).mono ?_
      rintro e w' ⟨rfl, rfl⟩
      go_wp2
      go_ret3
      exact ⟨[], tr P, some ⟨w1.heap.size, 0, none⟩, Ar, 0, cr, rfl, HD.out, HO2.out, HO1.out, HAP.out, hb2⟩
  · subst hnt
    go_enter Try.func30, Try.ntmps30
    go_wp2_with fail
    refine T1.out.mono ?_
    rintro e w' ⟨rfl, rfl⟩
    go_wp2_with fail
    refine T2.out.mono ?_
    rintro e w' ⟨rfl, rfl⟩
    go_wp2_with fail
    refine T3.out.mono ?_
    rintro e w1 ⟨Ar, cr, rfl, hownr, hb1⟩
    have hb1s := hb1.size
    go_wp2
    clear hmk
    have hown1 := hownr.alloc (.cells (madeCells #[.int .u8 0] 0) 5)
    have hownq := (Own.made w1 5 0 (by omega)).base hb1s
    have hb2 := hb1.alloc hb1s (.cells (madeCells #[.int .u8 0] 0) 5)
    have hap : ∀ g o o' : Nat, some (⟨w1.heap.size, 0, none⟩ : Addr) = some ⟨g, o, none⟩ → Ar ≠ some ⟨g, o', none⟩ := fun g o o' e e' => by
      injection e with e; injection e with e1; subst e1; have := pdiv_apart hownr e'; omega
    have HAP := Lib.hid hap
    clear hap hownr
    obtain ⟨W0, hW0⟩ : ∃ W0, W0 = w1.alloc (.cells (madeCells #[.int .u8 0] 0) 5) := ⟨_, rfl⟩
    rw [← hW0] at hown1 hownq hb2 ⊢
    have HI := Lib.hid hown1.inn
    have HO1 := Lib.hid hown1.tr
    have HO2 := Lib.hid hownq
    clear hW0 hown1 hownq
    go_loopw [10] (fun i wr => i = .int .i64 (-1) ∧ wr = W0) (fun _ _ => 0)
    case atStart => exact ⟨rfl, rfl⟩
    case round =>
      obtain ⟨rfl, rfl⟩ := hrel
      go_wp2_with fail
      refine (ptrim' Ar cr n P _ _ HN.out HI.out (by rw [← HN.out]; omega)).mono ?_
      rintro e w' ⟨rfl, rfl⟩
      go_wp2
      go_ret3
      exact ⟨[], tr P, some ⟨w1.heap.size, 0, none⟩, Ar, 0, cr, rfl, HD.out, HO2.out, HO1.out, HAP.out, hb2⟩

/-- Quotient, and what is left. -/
theorem pdiv_any (bf : Nat) (A A' : Option Addr) (c c' : Nat) (p d : List Nat) (w : World) (hF : IsField w bf) (hp : In w w.heap.size A c p) (hd : In w w.heap.size A' c' d) (hz : tr d ≠ []) (hcm : p.length ≤ 140737488355328) (hcm2 : d.length ≤ 140737488355328) :
    Calls Try.prog 30 #[.pointer (some ⟨bf, 0, none⟩), .slice A p.length c, .slice A' d.length c'] w fun e w' => DivAns w p d e w' := by
  by_cases h : (tr p).length < (tr d).length
  · exact pdiv_short bf A A' c c' p d w hp hd h hcm hcm2
  · exact pdiv_long bf A A' c c' p d w hF hp hd hz (by omega) hcm hcm2
theorem pdiv' (bf : Nat) (A A' : Option Addr) (c c' n m : Nat) (p d : List Nat) (w : World) (hn : n = p.length) (hm : m = d.length) (hF : IsField w bf) (hp : In w w.heap.size A c p) (hd : In w w.heap.size A' c' d) (hz : tr d ≠ []) (hcm : p.length ≤ 140737488355328) (hcm2 : d.length ≤ 140737488355328) :
    Calls Try.prog 30 #[.pointer (some ⟨bf, 0, none⟩), .slice A n c, .slice A' m c'] w fun e w' => DivAns w p d e w' := by
  subst hn hm; exact pdiv_any bf A A' c c' p d w hF hp hd hz hcm hcm2
end Go.Proofs.Ytmcfkgjkfceomaa
