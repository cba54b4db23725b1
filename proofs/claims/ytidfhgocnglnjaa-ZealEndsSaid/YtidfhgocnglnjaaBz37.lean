/- Proved here: texts joined: ZlEnd. -/
import Derived.Test.YtidfhgocnglnjaaBz19
/- Proved here: what the statement ZealEnds says, by the contracts of package zeal. -/
namespace Go.Proofs.Ytidfhgocnglnjaa
open Go.RowKit
set_option linter.unusedVariables false
set_option maxRecDepth 100000

/-- Do all begin, or end, with the same line as the first? -/
def hdB (f : Txs) (ds : List Txs) : Bool := decide (0 < f.length) && ds.all fun d => decide (d.head? = f.head?)
def edB (f : Txs) (ds : List Txs) : Bool := decide (0 < f.length) && ds.all fun d => decide (d.getLast? = f.getLast?)
/-- The conflict that is left. -/
theorem ends_conf {t bs f : Txs} {ds : List Txs} {q : Pc} (hq : q ∈ trimD (true, t, bs, f :: ds)) (hc : q.1 = true) :
    q.2.2.1 = bs ∧ q.2.2.2.length = (f :: ds).length ∧ ∃ g, q.2.2.2[0]? = some g ∧ hdB g q.2.2.2 = false ∧ edB g q.2.2.2 = false := by
  obtain ⟨t', ht⟩ := conf_normal hc (show q ∈ normal (trimL bs f (f :: ds)) from hq)
  obtain ⟨-, e⟩ := trimL_conf (List.mem_cons_self ..) ht rfl
  simp only [cPc, Prod.mk.injEq] at e
  obtain ⟨-, -, e1, e2⟩ := e
  refine ⟨e1, by rw [e2, List.length_map], leftD (begN f (f :: ds)) (tailN (f.drop (begN f (f :: ds))) ((f :: ds).map fun d => d.drop (begN f (f :: ds)))) f, by rw [e2]; rfl, ?_, ?_⟩
  · cases hb : hdB _ q.2.2.2 with
    | false => rfl
    | true =>
      unfold hdB at hb
      rw [Bool.and_eq_true, decide_eq_true_iff, List.all_eq_true] at hb
      obtain ⟨h1, h2⟩ := hb
      obtain ⟨x, hx⟩ : ∃ x, (leftD (begN f (f :: ds)) (tailN (f.drop (begN f (f :: ds))) ((f :: ds).map fun d => d.drop (begN f (f :: ds)))) f).head? = some x := ⟨_, (List.head?_eq_getElem? ..).trans (List.getElem?_eq_getElem h1)⟩
      refine absurd (fun d hd => ?_) (left_beg (f := f) (ds := f :: ds) (List.mem_cons_self ..) (b := tailN (f.drop (begN f (f :: ds))) ((f :: ds).map fun d => d.drop (begN f (f :: ds)))) (x := x))
      have := h2 _ (by rw [e2]; exact List.mem_map.2 ⟨d, hd, rfl⟩)
      rw [decide_eq_true_iff] at this
      exact this.trans hx
  · cases hb : edB _ q.2.2.2 with
    | false => rfl
    | true =>
      unfold edB at hb
      rw [Bool.and_eq_true, decide_eq_true_iff, List.all_eq_true] at hb
      obtain ⟨h1, h2⟩ := hb
      obtain ⟨x, hx⟩ : ∃ x, (leftD (begN f (f :: ds)) (tailN (f.drop (begN f (f :: ds))) ((f :: ds).map fun d => d.drop (begN f (f :: ds)))) f).getLast? = some x := ⟨_, (List.getLast?_eq_getElem? ..).trans (List.getElem?_eq_getElem (by omega))⟩
      refine absurd (fun d hd => ?_) (left_end (f := f) (ds := f :: ds) (List.mem_cons_self ..) (x := x))
      have := h2 _ (by rw [e2]; exact List.mem_map.2 ⟨d, hd, rfl⟩)
      rw [decide_eq_true_iff] at this
      exact this.trans hx
theorem hd_start {f : Txs} {ds : List Txs} (h : ds[0]? = some f) : decide (0 < f.length) = hdB f (ds.take 1) ∧ decide (0 < f.length) = edB f (ds.take 1) := by
  rw [take_at (k := 0) h]
  unfold hdB edB
  simp
theorem hd_off {f d : Txs} {ds : List Txs} {k : Nat} (h : hdB f (ds.take k) = false) (hd : ds[k]? = some d) : hdB f (ds.take (k + 1)) = false := by
  rw [take_at hd]
  unfold hdB at h ⊢
  rw [List.all_append, ← Bool.and_assoc, h, Bool.false_and]
theorem hd_none {f d : Txs} {ds : List Txs} {k : Nat} (hd : ds[k]? = some d) (h0 : d.length = 0) : hdB f (ds.take (k + 1)) = false := by
  rw [take_at hd]
  have : d = [] := List.eq_nil_of_length_eq_zero h0
  subst this
  unfold hdB
  cases f with
  | nil => rfl
  | cons x f => simp
theorem hd_on {f d : Txs} {ds : List Txs} {k : Nat} {s s' : Tx} (h : hdB f (ds.take k) = true) (hd : ds[k]? = some d) (h1 : d[0]? = some s) (h2 : f[0]? = some s') : hdB f (ds.take (k + 1)) = ((str s).toList == (str s').toList) := by
  rw [take_at hd]
  unfold hdB at h ⊢
  rw [List.all_append, ← Bool.and_assoc, h, ByteArray.toList_eq, ByteArray.toList_eq, str_data, str_data]
  rw [List.all_cons, List.all_nil, Bool.and_true, Bool.true_and, List.head?_eq_getElem?, List.head?_eq_getElem?, h1, h2, Bool.eq_iff_iff]
  simp
theorem ed_off {f d : Txs} {ds : List Txs} {k : Nat} (h : edB f (ds.take k) = false) (hd : ds[k]? = some d) : edB f (ds.take (k + 1)) = false := by
  rw [take_at hd]
  unfold edB at h ⊢
  rw [List.all_append, ← Bool.and_assoc, h, Bool.false_and]
theorem ed_none {f d : Txs} {ds : List Txs} {k : Nat} (hd : ds[k]? = some d) (h0 : d.length = 0) : edB f (ds.take (k + 1)) = false := by
  rw [take_at hd]
  have : d = [] := List.eq_nil_of_length_eq_zero h0
  subst this
  unfold edB
  cases f with
  | nil => rfl
  | cons x f =>
    have e : (List.all [([] : Txs)] fun d => decide (d.getLast? = (x :: f).getLast?)) = false := by simp [List.getLast?_cons]
    rw [List.all_append, e, Bool.and_false, Bool.and_false]
theorem ed_on {f d : Txs} {ds : List Txs} {k : Nat} {s s' : Tx} (h : edB f (ds.take k) = true) (hd : ds[k]? = some d) (h1 : d[d.length - 1]? = some s) (h2 : f[f.length - 1]? = some s') : edB f (ds.take (k + 1)) = ((str s).toList == (str s').toList) := by
  rw [take_at hd]
  unfold edB at h ⊢
  rw [List.all_append, ← Bool.and_assoc, h, ByteArray.toList_eq, ByteArray.toList_eq, str_data, str_data]
  rw [List.all_cons, List.all_nil, Bool.and_true, Bool.true_and, List.getLast?_eq_getElem?, List.getLast?_eq_getElem?, h1, h2, Bool.eq_iff_iff]
  simp
end Go.Proofs.Ytidfhgocnglnjaa
