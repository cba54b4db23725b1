/- Proved here: contracts of the document's own answers of layer 1: Same (it only reads). -/
import Derived.Test.YtoamkfegjhailaaTxtFew
import Derived.Test.YtoamkfegjhailaaChecked
import Derived.WalkLawsBesides
import Derived.BigFrame
import Derived.Deep.QuietTactic
import Derived.BigQuiet
namespace Go.Proofs.Ytoamkfegjhailaa
open Go.RowKit
set_option linter.unusedVariables false

theorem same_no {ss ss' : List (List UInt8)} {k : Nat} {t t' : List UInt8} (ht : ss[k]? = some t) (ht' : ss'[k]? = some t') (h : (!(str t).toList == (str t').toList) = true) : false = decide (ss = ss') := by
  rw [eq_comm, decide_eq_false_iff_not]
  rintro rfl
  rw [ht] at ht'
  injection ht' with e
  subst e
  simp at h
theorem same_yes {ss ss' : List (List UInt8)} {k : Nat} {t t' : List UInt8} (hq : ss.take k = ss'.take k) (ht : ss[k]? = some t) (ht' : ss'[k]? = some t') (h : (!(str t).toList == (str t').toList) = false) : ss.take (k + 1) = ss'.take (k + 1) := by
  rw [ByteArray.toList_eq, ByteArray.toList_eq, str_data, str_data] at h
  have e : t = t' := by simpa using h
  rw [take_at ht, take_at ht', hq, e]

set_option maxHeartbeats 400000 in
theorem Same_any (A A' : Option Addr) (n n' c c' B B' : Nat) (ss ss' : List (List UInt8)) (w : World) (hn : n ≤ maxLen) (hn' : n' ≤ maxLen) (hA : Strs w B A n ss) (hA' : Strs w B' A' n' ss') :
    Calls Try.prog 13 #[.slice A n c, .slice A' n' c'] w fun e w' => e = .returned (.bool (decide (ss = ss'))) ∧ ∃ k, w' = w.drewN k := by
  unfold maxLen at hn hn'
  have hl := hA.len
  have hl' := hA'.len
  by_cases hnn : n = n'
  · subst hnn
    go_enter Try.func13, Try.ntmps13
    go_wp2
    go_loopw [5] (fun i wr => ∃ k : Nat, k ≤ n ∧ i = .int .i64 k ∧ Hid (ss.take k = ss'.take k) ∧ ∃ q, wr = w.drewN q) (fun i _ => n - (intOf i).toNat)
    case atStart => exact ⟨0, Nat.zero_le _, rfl, Lib.hid rfl, 0, rfl⟩
    case round =>
      obtain ⟨k, hk, rfl, hq, q, rfl⟩ := hrel
      by_cases hlt : k < n
      · obtain ⟨b, o, t, rfl, hb, ht, hc0⟩ := hA.at_ (k := k) hlt
        obtain ⟨b', o', t', rfl, hb', ht', hc0'⟩ := hA'.at_ (k := k) hlt
        have hi1 : (0 : Int) ≤ (k : Int) := by omega
        have hi2 : (k : Int) < (n : Int) := by omega
        go_wp2
        go_quiet (fail)
        go_wp2
        · have h : (!(str t).toList == (str t').toList) = true := by assumption
          go_ret
          exact ⟨ret_bool (same_no ht ht' h), q + nq, World.drewN_drewN _ _ _⟩
        · have h : (!(str t).toList == (str t').toList) = false := by assumption
          go_roundw
          case rel => exact ⟨k + 1, by omega, by go_num, Lib.hid (same_yes hq.out ht ht' h), q + nq, rfl⟩
          case measure => simp [intOf]; omega
      · go_wp2
        go_ret
        exact ⟨ret_bool (by rw [eq_comm, decide_eq_true_iff]; have := hq.out; rwa [List.take_of_length_le (by omega), List.take_of_length_le (by omega)] at this), q, rfl⟩
  · have hne : (((n : Int) != (n' : Int))) = true := by simp; omega
    go_enter Try.func13, Try.ntmps13
    go_wp2
    go_ret
    exact ⟨ret_bool (by rw [eq_comm, decide_eq_false_iff_not]; rintro rfl; omega), 0, rfl⟩

/-- What lies in a span. -/
def cutL {α : Type} (l : List α) (f t : Int) : List α := (l.drop f.toNat).take (t - f).toNat
theorem cutL_len {α : Type} {l : List α} {f t : Int} (h0 : 0 ≤ f) (h1 : f ≤ t) (h2 : t ≤ l.length) : (cutL l f t).length = (t - f).toNat := by
  unfold cutL
  rw [List.length_take, List.length_drop]
  omega
set_option maxRecDepth 100000 in
/-- A part of texts, cut by two indices. -/
theorem slice_txs {w : World} {B n c : Nat} {A : Option Addr} {ss : List (List UInt8)} {f t : Int} (h : TxR w B (A, n, c) ss) (h0 : 0 ≤ f) (h1 : f ≤ t) (h2 : t ≤ n) :
    ∃ A' m k, (∀ W : World, (Instr.slice 22 (.slice A n c) (some (.int .i64 f)) (some (.int .i64 t)) none).run Try.prog W = .ok (.slice A' m k) W) ∧ TxR w B (A', m, k) (cutL ss f t) ∧ (0 < m → ∀ q o, A' = some ⟨q, o, none⟩ → ∃ o', A = some ⟨q, o', none⟩) ∧ m = (t - f).toNat := by
  obtain ⟨e1, e2, e3⟩ := h
  dsimp only at e1 e2 e3
  have hl := e3.len
  have hm : t.toNat - f.toNat = (t - f).toNat := by omega
  refine ⟨(if c = f.toNat then A else A.map (·.add f.toNat)), t.toNat - f.toNat, c - f.toNat, fun W => ?_, ⟨?_, ?_, ?_⟩, fun hn q o e => ?_, hm⟩
  · rw [run_slice_lh (P := Try.prog) W 22 A n c Try.underlying22 .i64 .i64 f t h0 h1 (by omega)]
    go_simp
  · show t.toNat - f.toNat ≤ c - f.toNat
    omega
  · show c - f.toNat ≤ maxLen
    omega
  · show Reads _ _ _ (t.toNat - f.toNat) _
    refine ⟨by rw [List.length_map, cutL_len h0 h1 (by omega)]; omega, fun hn => ?_⟩
    obtain ⟨b, o, rfl, hb, hc⟩ := e3.2 (by omega)
    rw [if_neg (by omega)]
    refine ⟨b, o + f.toNat, ?_, hb, fun j u hu => ?_⟩
    · simp only [Option.map_some]
      unfold Addr.add
      split
      · rename_i h
        rw [h]; rfl
      · rfl
    · rw [Nat.add_assoc]
      refine hc _ u ?_
      have hj := (List.getElem?_eq_some_iff.1 hu).1
      rw [List.length_map, cutL_len h0 h1 (by omega)] at hj
      rw [← hu, List.getElem?_map, List.getElem?_map]
      unfold cutL
      rw [List.getElem?_take, if_pos hj, List.getElem?_drop]
  · obtain ⟨b, o', rfl, hb, hc⟩ := e3.2 (by omega)
    rw [if_neg (by omega)] at e
    simp only [Option.map_some, Option.some.injEq] at e
    unfold Addr.add at e
    refine ⟨o', ?_⟩
    split at e
    · injection e with e1 e2
      subst e1
      rfl
    · injection e with e1 e2
      subst e1
      rfl
end Go.Proofs.Ytoamkfegjhailaa
