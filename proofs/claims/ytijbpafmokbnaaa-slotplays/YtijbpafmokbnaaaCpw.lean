/- 'copy' into a row of the call's own, from any place on; what a round of a range leaves as it was. -/
import Derived.Test.YtijbpafmokbnaaaMat
import Derived.RangeFuncOwn
import Derived.RangeFuncFrom
import Derived.RangeFuncKeeps
namespace Gw
open Go Go.RowKit Go.Shelf Pol
theorem run_copy_into {P : Program} {w : World} (t ty e : TypeId) (hu : P.underlying t = some (.slice e)) (hs : (P.info? e).map (·.size) = some 1) {base g n : Nat} {l : List Nat} (hown : Own w base e (some ⟨g, 0, none⟩) n l)
    (o dl dc : Nat) (hod : o + dl ≤ l.length) {A : Option Addr} {B : Nat} {p : List Nat} (m c : Nat) (hp : Sl w B A p) (hm : m = p.length) :
    ∃ w2, (Builtin.copy_ #[t, t] ty #[.slice (some ⟨g, o, none⟩) dl dc, .slice A m c]).run P w = .ok (.int .i64 (min m dl : Nat)) w2 ∧
      Own w2 base e (some ⟨g, 0, none⟩) n (l.take o ++ (p.take dl ++ l.drop (o + min m dl))) ∧ w.grownBy w2 (some g) := by
  subst hm
  have hpl : (p.take dl).length = min p.length dl := by rw [List.length_take]; omega
  have hpb : BB (p.take dl) := fun x hx => hp.bb x (List.mem_of_mem_take hx)
  by_cases h0 : min p.length dl = 0
  · have hr := run_copy_none (P := P) w t t ty e (some ⟨g, o, none⟩) A dl dc p.length c hu hs h0
    refine ⟨w, hr.trans (by rw [h0]; rfl), ?_, World.grownBy.refl w _⟩
    rw [h0] at hpl ⊢
    rw [List.eq_nil_of_length_eq_zero hpl, List.nil_append, Nat.add_zero, List.take_append_drop]
    exact hown
  · obtain ⟨x, b, off, hx, _, rfl, _, _⟩ := hp.at_ (k := 0) (by omega)
    rcases hown.1.2 with ⟨hv, _⟩ | ⟨g', cap, cur, hv, hb, hg, h1, h2, h3, h4⟩
    · injection hv with h; cases h
    injection hv with e1 _ e3
    injection e1 with e1
    injection e1 with e1
    subst e1 e3
    rw [Nat.mul_one] at h3 h4
    have hr := run_copy_row (P := P) w t t ty e g o dl dc ⟨b, off, none⟩ p.length c cur e (bys (p.take dl)) hu hs hg (by rw [bys_len, hpl]) (fun j v hj => by
      obtain ⟨y, hy, rfl⟩ := bys_get hj
      have hy' : p[j]? = some y := by
        have hjl := (List.getElem?_eq_some_iff.1 hy).1
        rw [List.getElem?_take, if_pos (by omega)] at hy
        exact hy
      obtain ⟨_, b', off', e', hb', hc'⟩ := hp j y hy'
      injection e' with e'
      injection e' with e1 e2
      subst e1 e2
      rw [addr_add]
      exact hc') (by rw [bys_len, hpl, h3]; omega) (bys_one _)
    rw [bys_len, hpl] at hr
    refine ⟨w.setRow g (cur.toList.take o ++ bys (p.take dl) ++ cur.toList.drop (o + min p.length dl)).toArray, hr, ?_, ⟨rfl, rfl, rfl, by simp [World.setRow], fun k _ hk => setRow_other w g k _ (fun e => hk (by rw [e]))⟩⟩
    have hcur : cur.toList = bys l ++ cur.toList.drop l.length := by rw [← h4, List.take_append_drop]
    have hbl := bys_len l
    have hnew : (cur.toList.take o ++ bys (p.take dl) ++ cur.toList.drop (o + min p.length dl)) = bys (l.take o ++ (p.take dl ++ l.drop (o + min p.length dl))) ++ cur.toList.drop l.length := by
      have t1 : cur.toList.take o = bys (l.take o) := by
        rw [hcur, List.take_append_of_le_length (by omega)]
        unfold bys; rw [List.map_take]
      have t2 : cur.toList.drop (o + min p.length dl) = bys (l.drop (o + min p.length dl)) ++ cur.toList.drop l.length := by
        conv => lhs; rw [hcur]
        rw [List.drop_append_of_le_length (by omega)]
        unfold bys; rw [List.map_drop]
      rw [t1, t2, bys_app, bys_app, List.append_assoc, List.append_assoc, List.append_assoc]
    have hlen : (l.take o ++ (p.take dl ++ l.drop (o + min p.length dl))).length = l.length := by
      simp only [List.length_append, List.length_take, List.length_drop]; omega
    refine ⟨⟨by rw [bys_len, Nat.mul_one], .inr ⟨g, n, _, by rw [hlen], hb, setRow_heap _ _ _ _ _ _ hg, by omega, h2, ?_, ?_⟩⟩, ?_⟩
    · have h5 := congrArg List.length hcur
      have h6 := congrArg List.length hnew
      simp only [List.length_append, bys_len, hlen] at h5 h6
      simp only [List.size_toArray, List.length_append, bys_len]
      simp only [Array.length_toList] at h5
      omega
    · rw [Nat.mul_one, hlen]
      show List.take l.length (_ ++ _ ++ _) = _
      rw [hnew]
      exact List.take_left' (by rw [bys_len, hlen])
    · exact BB.append (fun x hx => hown.2 x (List.mem_of_mem_take hx)) (BB.append hpb (fun x hx => hown.2 x (List.mem_of_mem_drop hx)))
/-- A row of one's own where what is turned is no cells. -/
theorem Own.turned {base c : Nat} {A B : World} {row : Option Nat} {e : TypeId} {ad : Option Addr} {l : List Nat} (hs : Own A base e ad c l) (hg : A.grownBy B row) (hr : ∀ r, row = some r → ∃ o : Obj, A.heap[r]? = some o ∧ o.isCells = false) : Own B base e ad c l := by
  refine ⟨⟨hs.1.1, ?_⟩, hs.2⟩
  rcases hs.1.2 with h0 | ⟨k, cap, cur, hv, h1, h2, h3⟩
  · exact .inl h0
  · refine .inr ⟨k, cap, cur, hv, h1, ?_, h3⟩
    refine (hg.block k (Array.getElem?_eq_some_iff.1 h2).1 (fun e => ?_)).trans h2
    obtain ⟨o, h4, h5⟩ := hr k e.symm
    rw [h2] at h4
    injection h4 with h4
    subst h4
    cases h5
theorem Row.turned {A B : World} {b n : Nat} {f : Nat → Value} {row : Option Nat} (hs : Row A b n f) (hg : A.grownBy B row) (hr : ∀ r, row = some r → ∃ o : Obj, A.heap[r]? = some o ∧ o.isCells = false) : Row B b n f := fun o ho =>
  ⟨cell_kept (hs o ho).1 hg hr, (frozen_kept (hs o ho).1 hg hr).trans (hs o ho).2⟩
theorem others_below {W X : World} (h : Below W.heap.size W X) : KeepsOthers W X := ⟨h.size, fun k _ hk _ => (h.block k (Array.getElem?_eq_some_iff.1 hk).1).trans hk⟩
theorem others_cells {X W' : World} {g : Nat} (ho : ∀ o, X.heap[g]? = some o → o.isCells = true) (h : X.grownBy W' (some g)) : KeepsOthers X W' := ⟨h.size, fun k o hk hc => by
  refine (h.block k (Array.getElem?_eq_some_iff.1 hk).1 (fun e => ?_)).trans hk
  injection e with e
  subst e
  have := ho o hk
  rw [this] at hc; cases hc⟩
theorem Own.cellsAt {w : World} {base g o c : Nat} {e : TypeId} {l : List Nat} (h : Own w base e (some ⟨g, o, none⟩) c l) : ∀ ob, w.heap[g]? = some ob → ob.isCells = true := fun ob hob => by
  rcases h.1.2 with ⟨hv, _⟩ | ⟨g', cap, cur, hv, _, hg, _⟩
  · injection hv with h; cases h
  · injection hv with e1
    injection e1 with e1
    injection e1 with e1
    subst e1
    rw [hob] at hg
    injection hg with hg
    rw [hg]; rfl
end Gw
