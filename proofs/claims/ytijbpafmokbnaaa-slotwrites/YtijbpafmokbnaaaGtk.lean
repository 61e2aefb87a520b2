/- A region that leaves its order open, inside a fence and outside a round: as Gtj's. -/
import Derived.Test.YtijbpafmokbnaaaGtj
namespace Gt
open Go Go.RowKit
section
variable {P : Program} {ops : Array Oper} {S : World → Prop} {sp : List Sp} {T : Nat → Value → World → Prop} {a0 : Act} {m : Nat}
theorem op_inF {Q : Exit → Act → World → Prop} {K : Act → World → Prop} {n i : Nat} {o : Oper} {p : Plan} {s : Array Bool} {a : Act} {w : World} (L : Laws ops S sp T) (hd : ∀ c, o.op ≠ .defer c) (inv : InvJ ops S sp T a0 s a w) (hi : i ∈ Region.ready .any ops s) (ho : ops[i]? = some o) (hb : opB ops n i o p = true)
    (hob1 : ObJ P S sp T a0 i o p) (hK : ∀ v w', Rf sp i w w' → T i v w' → K (a.put o.dst v) w') : wpOpIn Fence.wide m P ops Q i K a w := by
  have h := asked hb (known inv hi ho hb hob1)
  unfold wpOpIn
  simp only [ho]
  split at h
  · rename_i hw
    rw [if_pos hw]
    refine ⟨fun _ _ => trivial, ?_⟩
    rw [Oper.semAt_plain _ _ _ hd]
    cases hr : (execOp a.eval o).run P w with
    | ok x w' =>
      rw [hr] at h
      cases x with
      | value u => exact hK _ _ h.1 h.2
      | skip => exact hK _ _ h.1 h.2
      | enter g args =>
        refine ⟨fun hx => by simp [Fence.wide] at hx, callsIn_wide.2 (Calls.mono h fun e w'' he => ?_)⟩
        obtain ⟨v, rfl, h1, h2⟩ := he
        exact hK _ _ h1 h2
      | _ => exact h.elim
    | halt x w' => rw [hr] at h; exact h.elim
  · rename_i hw
    rw [if_neg hw]
    exact ⟨fun _ _ => trivial, hK _ _ (L.Rrefl i w) h⟩
theorem regionJF {w0 : World} {id : Nat} {Q : Exit → Act → World → Prop} {t : List Oper} (S : World → Prop) (sp : List Sp) (Ts : List (Value → World → Prop)) (n h : Nat) (plan : List Plan) (es : List (Nat × Nat)) (hm : P.follows .mixedOrders = true) (hn : a0.tmps.size = n) (hB : okB t.toArray n plan = true) (hT : tailJ t h = true) (hE : allB t h es = true)
    (hd : Gq.noDefer t = true) (L : Laws t.toArray S sp (tys Ts)) (h0 : S { w0 with drawn := w0.drawn + 1 }) (hf : ∀ x ∈ sp, x.fact { w0 with drawn := w0.drawn + 1 })
    (hob : ObsJ P S sp (tys Ts) a0 0 (t.take h) plan) (hQ : ∀ a w, S w → Pre (tys Ts) a w es (wpListIn Fence.wide m P t.toArray Q (t.drop h) (puts a es a0) w)) : (Code.region id t.toArray true).wpIn Fence.wide m P Q a0 w0 := by
  simp only [tailJ, Bool.and_eq_true, Bool.or_eq_true, decide_eq_true_eq] at hT
  obtain ⟨⟨h1, h2⟩, h4⟩ := hT
  have h1' : h ≤ t.length := by simpa using h1
  have hsz : h + (t.drop h).length = t.toArray.size := by simp; omega
  have key := any_tailJ (P := P) (S := S) (sp := sp) (T := tys Ts) (a0 := a0) (Wn := fun f s a w => wpAnyIn Fence.wide m P .any t.toArray Q f s a w) (Wo := fun i K a w => wpOpIn Fence.wide m P t.toArray Q i K a w) (Wl := fun a w => wpListIn Fence.wide m P t.toArray Q (t.drop h) a w) L
    (fun f s a w hne hall => ⟨fun hr => absurd hr hne, hall⟩) (fun i o p s a w K inv hi ho hb hob hK => op_inF L (Gq.noDefer_spec hd i o ho) inv hi ho hb hob hK)
    (fun s a w hB hl => Gq.anyIn_of_seq (t.drop h) h s a w (fun j => by simp [List.getElem?_drop]) hB hl) hB hn h1 (fun hlt => h2.resolve_left (by omega)) h4 hob
    (fun s a w inv hall htl => invJ_end (G := fun a => wpListIn Fence.wide m P t.toArray Q (t.drop h) a w) hE inv hall htl (hQ a w inv.st)) h (Array.replicate t.toArray.size false) a0 { w0 with drawn := w0.drawn + 1 } (by simp; omega) (inv0 h0 hf) (fun j _ hj => getD_in (by simpa using hj) (getD_replicate_false _ _))
  rw [hsz] at key
  exact wpIn_region_any hm key
end
end Gt
