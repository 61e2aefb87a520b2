/- The first rows of rows that are read, as s[:h] names them. -/
import Derived.Test.YtnpjncbdmgdjnaaSto
import Derived.Test.YtnpjncbdmgdjnaaPby
namespace Go.Proofs.Ytnpjncbdmgdjnaa
open Go.RowKit Go.Shelf Gw Pol
theorem srows_elem : Try.prog.underlying 24 = some (.slice (Try.prog.elem 24)) := by kernel_rfl
theorem srows_one (w : World) : (Go.sizeOf (Try.prog.elem 24)).run Try.prog w = .ok 1 w := by kernel_rfl
theorem rows_h_any {w : World} {B : Nat} {A : Option Addr} {c R h : Nat} {pa : Nat → Option Addr} {cp : Nat → Nat} {l : Nat → List Nat} (hM : MIn w B A c R pa cp l) (hh : h ≤ R) :
    ∃ AT cT, (∀ w', (Instr.sliceAt 24 (.slice A R c) none (some (.int .i64 (h : Int))) none).run Try.prog w' = .ok (.slice AT h cT) w') ∧ MIn w B AT cT h pa cp l := by
  have hcap := hM.cap
  have hrun : ∀ w', (Instr.sliceAt 24 (.slice A R c) none (some (.int .i64 (h : Int))) none).run Try.prog w' = .ok (sliced A 0 h c 1) w' := fun w' => by
    rw [run_sliceAt_slice w' _ _ _ _ _ srows_elem, run_slice_h w' _ A R c srows_elem .i64 (h : Int) (by omega) (by omega), srows_one, Result.andThen_ok, Int.toNat_natCast]
  refine ⟨_, c, fun w' => (hrun w').trans rfl, ⟨fun i hi => ?_, by omega, fun hn => ?_⟩⟩
  · obtain ⟨b, off, h1, h2, h3, h4⟩ := hM.rd i (by omega)
    subst h1
    refine ⟨b, off, ?_, h2, h3, h4⟩
    split
    · rfl
    · rw [Option.map_some, addr_add]; simp
  · by_cases hc : c = 0
    · exact hc
    · rw [if_neg hc] at hn
      cases A with
      | none => exact hM.none_ rfl
      | some a => cases hn
end Go.Proofs.Ytnpjncbdmgdjnaa
