/- Proved here, without conditions on the program: texts put together; how many lines a conflict makes. -/
import Derived.Test.YtoamkfegjhailaaMarkPure
import Derived.Test.YtoamkfegjhailaaTxO
import Derived.Laws.OwnMore
import Derived.RangeFuncBox
namespace Go.Proofs.Ytoamkfegjhailaa
open Go.RowKit
set_option linter.unusedVariables false
set_option maxRecDepth 100000

theorem rep_app (c : UInt8) (i : Nat) : str (List.replicate i c) ++ str [c] = str (List.replicate (i + 1) c) := by
  rw [strs_app, ← List.replicate_succ']

theorem closed_setO {ss : Txs} {n : Nat} {t : Tx} (hl : ss.length = n + 1) (ht : ss[n]? = some t) (ho : openB ss = true) : closed ss = ss.set n (t ++ [10]) := by
  have hg : ss.getLast? = some t := by rw [List.getLast?_eq_getElem?, hl]; exact ht
  unfold closed openB at *
  rw [hg] at ho ⊢
  dsimp only at ho ⊢
  rw [if_neg (by simpa using ho)]
  apply List.ext_getElem?
  intro i
  rw [List.getElem?_set]
  rcases Nat.lt_trichotomy i n with h | h | h
  · rw [List.getElem?_append_left (by rw [List.length_dropLast]; omega), List.getElem?_dropLast, if_pos (by omega), if_neg (by omega)]
  · subst h
    rw [List.getElem?_append_right (by rw [List.length_dropLast]; omega), List.length_dropLast, if_pos rfl, if_pos (by omega)]
    rw [hl, Nat.add_sub_cancel, Nat.sub_self]
    rfl
  · rw [List.getElem?_eq_none (by rw [List.length_append, List.length_dropLast, List.length_singleton]; omega), if_neg (by omega), List.getElem?_eq_none (by omega)]

/-- Texts that a call has made, told. -/
def OwnT (w w' : World) (e : Ending) (xs : Txs) : Prop := ∃ v, e = .returned v ∧ TxO w w' v xs
theorem TxO.call {w wr w1 : World} {v : Value} {xs : Txs} (h : TxO w wr v xs) (hb : Below wr.heap.size wr w1) : TxO w w1 v xs :=
  ⟨ownsRow_kept h.own fun k e => hb.block k (h.own.lt k e).2, h.below.trans (hb.mono h.below.size)⟩
theorem own_lower {w : World} {b1 b2 n : Nat} {e : TypeId} {size : Nat} {v : Value} {xs : List Value} (h : w.ownsRow b1 e size v n xs) (hb : b2 ≤ b1) : w.ownsRow b2 e size v n xs := by
  refine ⟨h.1, ?_⟩
  rcases h.2 with h | ⟨g, cap, cur, e1, h2, r⟩
  · exact .inl h
  · exact .inr ⟨g, cap, cur, e1, Nat.le_trans hb h2, r⟩
theorem TxO.lit (w : World) (s : Tx) : TxO w (w.alloc (.cells #[.string (str s)] 9)) (.slice (some ⟨w.heap.size, 0, none⟩) 1 1) [s] :=
  ⟨World.ownsRow_lit w #[.string (str s)] 1 (Nat.le_refl _) (by decide) rfl, below_alloc (Below.refl _ _) _⟩
theorem sides_len : ∀ (ds : List Txs) (long : Nat) (ahead : Txs) (n : Nat), (sidesM long ahead n ds).length = ds.flatten.length + ds.length + 1
  | [], _, _, _ => rfl
  | d :: ds, long, ahead, n => by
    unfold sidesM
    rw [List.length_cons, List.length_append, closed_len, sides_len ds, List.flatten_cons, List.length_append, List.length_cons]; omega
theorem flatM_len {ds : List Txs} (h : ∀ d ∈ ds, d.length ≤ 10000) : ds.flatten.length ≤ ds.length * 10000 := by
  induction ds with
  | nil => simp
  | cons d ds ih =>
    have := ih fun e he => h e (List.mem_cons_of_mem _ he)
    have := h d (List.mem_cons_self ..)
    rw [List.flatten_cons, List.length_append, List.length_cons]
    omega
theorem conf_len {style : Int} {long : Nat} {bs : Txs} {ds : List Txs} (h : ∀ d ∈ bs :: ds, d.length ≤ 10000) : (confM style long bs ds).length ≤ (ds.length + 2) * 10001 := by
  cases ds with
  | nil => simp [confM]
  | cons f ds =>
    have h1 := flatM_len (ds := ds) fun d hd => h d (List.mem_cons_of_mem _ (List.mem_cons_of_mem _ hd))
    have h2 := h bs (List.mem_cons_self ..)
    have h3 := h f (by simp)
    unfold confM
    rw [List.length_cons, List.length_append, closed_len]
    split
    · rw [sides_len, List.length_cons]; omega
    · rw [List.length_cons, List.length_append, closed_len, sides_len, List.length_cons]; omega
theorem conf_split (style : Int) (long : Nat) (bs f : Txs) (ds : List Txs) : confM style long bs (f :: ds) = if style = 1 then ([markT 60 long [] [32, 49]] ++ closed f) ++ sidesM long f 2 ds else (([markT 60 long [] [32, 49]] ++ closed f) ++ [markT 124 long f [32, 98, 97, 115, 101]] ++ closed bs) ++ sidesM long bs 2 ds := by
  by_cases h : style = 1
  · rw [if_pos h]; unfold confM; simp [h]
  · rw [if_neg h]; unfold confM; simp [h]
end Go.Proofs.Ytoamkfegjhailaa
