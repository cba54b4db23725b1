/- Proved here, without conditions on the program: in a region that draws its order, a reading operation whose place no other operation turns may be taken first, although others write. -/
import Derived.OrdersIn
import Derived.WalkKit
namespace Go.Proofs.Ytijinhhlikhjfaa
set_option linter.unusedVariables false

section
variable {F : Fence} {n : Nat} {P : Program} {ops : Array Oper} {Q : Exit → Act → World → Prop} {md : Region.Mode} {C : World → Prop}

/-- Whatever order is picked from here on, C holding of each world on the way. -/
def AnyC (F : Fence) (n : Nat) (P : Program) (md : Region.Mode) (ops : Array Oper) (C : World → Prop) (Q : Exit → Act → World → Prop) : Nat → Array Bool → Act → World → Prop
  | 0, listed, a, w => Region.ready md ops listed = [] ∧ Q .normal a w
  | fuel + 1, listed, a, w => (Region.ready md ops listed = [] → Q .normal a w) ∧
    ∀ i ∈ Region.ready md ops listed, wpOpIn F n P ops Q i (fun a' w' => C w' ∧ AnyC F n P md ops C Q fuel (listed.setIfInBounds i true) a' w') a w

theorem AnyC.any : ∀ (fuel : Nat) (listed : Array Bool) (a : Act) (w : World), AnyC F n P md ops C Q fuel listed a w → wpAnyIn F n P md ops Q fuel listed a w
  | 0, _, _, _, h => h
  | fuel + 1, _, _, _, h => ⟨h.1, fun i hi => wpOpIn_mono (fun a w h => AnyC.any fuel _ a w h.2) (h.2 i hi)⟩

/-- An operation leaves the frame as it was, but for its slot. -/
theorem wpOpIn_shape {j : Nat} {oj : Oper} (hj : ops[j]? = some oj) {K : Act → World → Prop} {a : Act} {w : World} (h : wpOpIn F n P ops Q j K a w) :
    wpOpIn F n P ops Q j (fun a' w' => K a' w' ∧ ∃ ds u, a' = ({ a with defers := ds } : Act).put oj.dst u) a w := by
  unfold wpOpIn at h ⊢
  simp only [hj] at h ⊢
  split
  · rename_i hw
    rw [if_pos hw] at h
    unfold Oper.wpIn at h ⊢
    obtain ⟨h0, h⟩ := h
    refine ⟨h0, ?_⟩
    generalize (oj.semAt F.round a.eval).run P w = r at *
    cases r with
    | ok x w' =>
      cases x <;> simp only [Oper.uponIn] at h ⊢
      case value u => exact ⟨h, a.defers, u, rfl⟩
      case skip => exact ⟨h, a.defers, undef, rfl⟩
      case defer d => exact ⟨h, d :: a.defers, undef, rfl⟩
      case enter f args => exact ⟨h.1, h.2.mono fun e w'' he => by cases e with
        | returned u => exact ⟨he, a.defers, u, rfl⟩
        | panicked c => exact he
        | outgrown => exact he⟩
      case row row args => exact ⟨h.1, h.2.mono fun u w'' he => ⟨he, a.defers, u, rfl⟩⟩
      case round l f tmps assign body => exact ⟨h.1, h.2.mono fun e w'' he => by cases e with
        | returned u => exact ⟨he, a.defers, u, rfl⟩
        | panicked c => exact he
        | outgrown => exact he⟩
    | halt x w' =>
      cases x <;> simp only [Oper.uponIn] at h ⊢
      case panic u => exact h
  · rename_i hw
    rw [if_neg hw] at h
    exact ⟨h.1, h.2, a.defers, undef, rfl⟩

theorem AnyC.first' {i : Nat} {oi : Oper} {v : Value} (hro : F.round = none) (hi : ops[i]? = some oi) (hg : oi.guard = none) (hsel : ∀ (j : Nat) (o : Oper) cs b, ops[j]? = some o → o.op ≠ .select cs b)
    (hQ : ∀ c a w, Q (.panic c) (a.put oi.dst v) w → Q (.panic c) a w) :
    ∀ (fuel : Nat) (listed : Array Bool) (a : Act) (w : World), C w →
      (∀ j oj, ops[j]? = some oj → j ≠ i → listed.getD j true = false → (∀ e ∈ oj.after, Region.binds md e = true → e.on ≠ i) → oi.apart ops oj = true) →
      i ∈ Region.ready md ops listed → (∀ w, C w → (execOp a.eval oi).run P w = .ok (.value v) w) → (∀ w, oi.about P w a.eval = none) →
      AnyC F n P md ops C Q fuel (listed.setIfInBounds i true) (a.put oi.dst v) w → AnyC F n P md ops C Q (fuel + 1) listed a w := by
  have atI : ∀ (K : Act → World → Prop) (a : Act) (w : World), C w → (∀ w, C w → (execOp a.eval oi).run P w = .ok (.value v) w) → (∀ w, oi.about P w a.eval = none) → K (a.put oi.dst v) w → wpOpIn F n P ops Q i K a w := by
    intro K a w hC hv hab hK
    unfold wpOpIn
    have hw : Region.wanted oi (yielded ops a.tmps) = true := by unfold Region.wanted; rw [hg]
    simp only [hi, hw, if_true, Oper.wpIn, hro, Oper.semAt_none, hv w hC, Oper.uponIn]
    exact ⟨fun f hf => (by rw [hab w] at hf; simp at hf), hK⟩
  intro fuel
  induction fuel with
  | zero =>
    intro listed a w hC hfree hr hv hab H
    refine ⟨fun h => (by rw [h] at hr; simp at hr), fun j hj => ?_⟩
    by_cases hji : j = i
    · subst hji; exact atI _ a w hC hv hab ⟨hC, H⟩
    · have := ready_mono hj hji
      rw [H.1] at this
      cases this
  | succ fuel ih =>
    intro listed a w hC hfree hr hv hab H
    refine ⟨fun h => (by rw [h] at hr; simp at hr), fun j hj => ?_⟩
    by_cases hji : j = i
    · subst hji; exact atI _ a w hC hv hab ⟨hC, H⟩
    · have h1 := H.2 j (ready_mono hj hji)
      obtain ⟨hjun, oj, hoj, hall⟩ := mem_ready.1 hj
      have hnot : ∀ e ∈ oj.after, Region.binds md e = true → e.on ≠ i := fun e he hb heq => by
        have h1 := hall e he hb
        have h0 := (mem_ready.1 hr).1
        rw [heq] at h1
        rcases Nat.lt_or_ge i listed.size with h' | h'
        · simp [h'] at h0 h1; rw [h0] at h1; cases h1
        · simp [Array.getElem?_eq_none h'] at h1
      have hap := hfree j oj hoj hji hjun hnot
      obtain ⟨q1, q2, q3⟩ := Oper.apart_spec hap
      -- the constant in the reading operation's place
      have hap' : ({ oi with op := .assign (.const v) } : Oper).apart ops oj = true := by
        unfold Oper.apart at hap ⊢
        simp only [Bool.and_eq_true] at hap ⊢
        refine ⟨hap.1, ?_⟩
        cases hd : oj.dst with
        | none => rfl
        | some d => simp [Oper.looksAt, hg, Op.operands]
      have hyc : ∀ a : Act, YieldsFenced P ops ({ oi with op := .assign (.const v) } : Oper) v a := fun a => ⟨.inl ⟨by unfold Region.wanted; simp only [hg], fun w => by simp [execOp, go_sem]⟩, fun w => rfl⟩
      have h2 := wpOpIn_put (oi := { oi with op := .assign (.const v) }) hro hoj hap' (fun cs b h => by cases h) (fun cs b => hsel j oj cs b hoj) hQ (hyc a) h1
      have h3 := wpOpIn_shape hoj h2
      have hfree' : ∀ k ok, ops[k]? = some ok → k ≠ i → (listed.setIfInBounds j true).getD k true = false → (∀ e ∈ ok.after, Region.binds md e = true → e.on ≠ i) → oi.apart ops ok = true := fun k ok hk hki hun hno => by
        refine hfree k ok hk hki ?_ hno
        by_cases hjk : j = k
        · subst hjk; exact hjun
        · rw [getD_set_ne true hjk] at hun; exact hun
      refine wpOpIn_mono (fun a' w' h4 => ?_) h3
      obtain ⟨⟨-, hC', hA⟩, ds, u, rfl⟩ := h4
      have hex : execOp (({ a with defers := ds } : Act).put oj.dst u).eval oi = execOp a.eval oi := execOp_put oi (fun cs b => hsel i oi cs b hi) { a with defers := ds } oj.dst u q3
      refine ⟨hC', ih (listed.setIfInBounds j true) _ w' hC' hfree' (ready_mono hr (Ne.symm hji)) (fun w hw => by rw [hex]; exact hv w hw) (fun w => ?_) ?_⟩
      · rw [about_put oi w { a with defers := ds } oj.dst u q3]; exact hab w
      · rw [Array.setIfInBounds_comm _ _ hji]
        exact hA

/-- A reading operation is taken first. -/
theorem AnyC.first {i : Nat} {oi : Oper} {v : Value} {fuel : Nat} {listed : Array Bool} {a : Act} {w : World} (hro : F.round = none) (hi : ops[i]? = some oi) (hg : oi.guard = none) (hs : Region.noSelect ops = true)
    (hf : Region.free md ops listed i = true) (hr : (Region.ready md ops listed).contains i = true) (hQ : ∀ c a w, Q (.panic c) (a.put oi.dst v) w → Q (.panic c) a w) (hC : C w)
    (hv : ∀ w, C w → (execOp a.eval oi).run P w = .ok (.value v) w) (hab : ∀ w, oi.about P w a.eval = none)
    (h : AnyC F n P md ops C Q fuel (listed.setIfInBounds i true) (a.put oi.dst v) w) : AnyC F n P md ops C Q (fuel + 1) listed a w :=
  AnyC.first' hro hi hg (Region.noSelect_spec hs) hQ fuel listed a w hC (Region.free_spec hi hf) (by simpa using hr) hv hab h

/-- One operation alone may come up. -/
theorem AnyC.one {i : Nat} {o : Oper} {fuel : Nat} {listed : Array Bool} {a : Act} {w : World} (hr : Region.ready md ops listed = [i]) (ho : ops[i]? = some o) (hg : o.guard = none)
    (h : ∀ K : Act → World → Prop, (∀ a' w', C w' → AnyC F n P md ops C Q fuel (listed.setIfInBounds i true) a' w' → K a' w') → Oper.wpIn F n P o a w K Q) : AnyC F n P md ops C Q (fuel + 1) listed a w := by
  refine ⟨fun h0 => (by rw [hr] at h0; simp at h0), fun j hj => ?_⟩
  rw [hr] at hj
  obtain rfl : j = i := by simpa using hj
  unfold wpOpIn
  have hw : Region.wanted o (yielded ops a.tmps) = true := by unfold Region.wanted; rw [hg]
  simp only [ho, hw, if_true]
  exact h _ fun a' w' hC hA => ⟨hC, hA⟩

theorem AnyC.done {listed : Array Bool} {a : Act} {w : World} (hr : Region.ready md ops listed = []) (h : Q .normal a w) : AnyC F n P md ops C Q 0 listed a w := ⟨hr, h⟩

/-- No other way out than to the end. -/
def calm (Q : Exit → Act → World → Prop) : Exit → Act → World → Prop
  | .normal, a, w => Q .normal a w
  | .ret, _, _ => False
  | .exit _, _, _ => False
  | .goto _, _, _ => False
  | .panic _, _, _ => False
  | .outgrown, _, _ => False
theorem calm_any : ∀ (e : Exit) (a : Act) (w : World), calm Q e a w → Q e a w
  | .normal, _, _, h => h
  | .ret, _, _, h => h.elim
  | .exit _, _, _, h => h.elim
  | .goto _, _, _, h => h.elim
  | .panic _, _, _, h => h.elim
  | .outgrown, _, _, h => h.elim
theorem wpIn_region_C {id : Nat} {a : Act} {w : World} (C : World → Prop) (hm : P.follows .mixedOrders = true)
    (h : AnyC F n P .any ops C (calm Q) ops.size (Array.replicate ops.size false) a w.drew) : (Code.region id ops true).wpIn F n P Q a w :=
  wpIn_mono (wpIn_region_any hm (AnyC.any _ _ _ _ h)) calm_any
end
end Go.Proofs.Ytijinhhlikhjfaa
