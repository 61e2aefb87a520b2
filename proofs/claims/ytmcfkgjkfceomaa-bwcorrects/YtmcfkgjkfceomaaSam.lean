/- What the definition's own Same (package shamrockref01) does. -/
import Derived.Test.YtmcfkgjkfceomaaBys
import Derived.Test.YtmcfkgjkfceomaaProg
namespace Go.Proofs.Ytmcfkgjkfceomaa
open Go.RowKit Go.Shelf Gw Pol
set_option maxRecDepth 100000 in
set_option maxHeartbeats 400000 in
/-- Are they the same? -/
theorem same_any (A A' : Option Addr) (c c' : Nat) (p q : List Nat) (w : World) (B B' : Nat) (hp : In w B A c p) (hq : In w B' A' c' q) :
    Calls Try.prog 13 #[.slice A p.length c, .slice A' q.length c'] w fun e w' => e = .returned (.bool (decide (p = q))) ∧ w = w' := by
  have h1 := conv_sl (P := Try.prog) hp.sl Try.underlying22 Try.underlying5 Try.underlying9 c
  have h2 := conv_sl (P := Try.prog) hq.sl Try.underlying22 Try.underlying5 Try.underlying9 c'
  have HS := Lib.hid (str_same hp.bb hq.bb)
  go_enter Try.func13, Try.ntmps13
  go_wp2
  go_ret
  exact ⟨by rw [← HS.out]; rfl, rfl⟩

theorem same' (A A' : Option Addr) (c c' n m : Nat) (p q : List Nat) (w : World) (B B' : Nat) (hn : n = p.length) (hm : m = q.length) (hp : In w B A c p) (hq : In w B' A' c' q) :
    Calls Try.prog 13 #[.slice A n c, .slice A' m c'] w fun e w' => e = .returned (.bool (decide (p = q))) ∧ w = w' := by
  subst hn hm; exact same_any A A' c c' p q w B B' hp hq
end Go.Proofs.Ytmcfkgjkfceomaa
