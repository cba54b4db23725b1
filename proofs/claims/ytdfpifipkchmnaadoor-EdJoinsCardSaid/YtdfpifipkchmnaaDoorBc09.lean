/- Proved here: texts joined: TxtFew, TxtCut, TxtRef. -/
import Derived.Test.YtdfpifipkchmnaaDoorBc03
import Derived.Test.YtdfpifipkchmnaaDoorChecked
import Derived.WalkLawsBesides
import Derived.BigFrame
import Derived.Deep.QuietTactic
import Derived.BigQuiet
/- Proved here: the contract of the document's own answer of layer 1: Few (it only reads). -/
namespace Go.Proofs.YtdfpifipkchmnaaDoor
open Go.RowKit
set_option linter.unusedVariables false

theorem infoTxs : (Tryd.prog.info? 22).map (fun i => (i.zero, i.size, i.bytes)) = some (some (.slice none 0 0), 1, 24) := by kernel_rfl
/-- At most 'most' texts, of 100 bytes at most. -/
def fewB (ss : List (List UInt8)) (most : Nat) : Bool := decide (ss.length ≤ most) && (ss.take (most + 1)).all fun s => decide (s.length ≤ 100)

theorem few_step {ss : List (List UInt8)} {k : Nat} {t : List UInt8} (hq : (ss.take k).all (fun s => decide (s.length ≤ 100)) = true) (ht : ss[k]? = some t) (h : ¬ (100 : Int) < ((str t).size : Int)) : (ss.take (k + 1)).all (fun s => decide (s.length ≤ 100)) = true := by
  rw [str_size] at h
  rw [take_at ht, List.all_append, hq]
  simp; omega
theorem few_no {ss : List (List UInt8)} {k most : Nat} {t : List UInt8} (hk : k ≤ most) (ht : ss[k]? = some t) (h : (100 : Int) < ((str t).size : Int)) : false = fewB ss most := by
  rw [str_size] at h
  unfold fewB
  have hm : t ∈ ss.take (most + 1) := List.mem_of_getElem? (i := k) (by rw [List.getElem?_take]; rw [if_pos (by omega)]; exact ht)
  rw [eq_comm, Bool.and_eq_false_iff]
  right
  rw [Bool.eq_false_iff, ne_eq, List.all_eq_true]
  intro ha
  have := ha t hm
  simp at this
  omega

theorem few_end {ss : List (List UInt8)} {k n most : Nat} (hl : ss.length = n) (h : k = n ∨ most < k ∧ k < n) (hq : (ss.take k).all (fun s => decide (s.length ≤ 100)) = true) : decide (n ≤ most) = fewB ss most := by
  unfold fewB
  rw [hl]
  by_cases hm : n ≤ most
  · have : k = n := by omega
    subst this
    rw [List.take_of_length_le (by omega)] at hq
    rw [List.take_of_length_le (by omega), hq]
    simp
  · simp [hm]

set_option maxHeartbeats 400000 in
theorem Few_any (A : Option Addr) (n c most B : Nat) (ss : List (List UInt8)) (w : World) (hn : n ≤ maxLen) (hmo : most ≤ 1000000) (hA : Strs w B A n ss) :
    Calls Tryd.prog 6 #[.slice A n c, .int .i64 most] w fun e w' => e = .returned (.bool (fewB ss most)) ∧ w = w' := by
  unfold maxLen at hn
  have hl := hA.len
  go_enter Tryd.func6, Tryd.ntmps6
  go_wp2
  go_loop [5] (fun i => ∃ k : Nat, k ≤ n ∧ k ≤ most + 1 ∧ i = .int .i64 k ∧ Hid ((ss.take k).all (fun s => decide (s.length ≤ 100)) = true)) (fun i => n - (intOf i).toNat)
  case atStart => exact ⟨0, Nat.zero_le _, Nat.zero_le _, rfl, Lib.hid rfl⟩
  case round =>
    obtain ⟨k, hk, hkm, rfl, hq⟩ := hrel
    by_cases hlt : k < n
    · by_cases hm : k ≤ most
      · obtain ⟨b, o, t, rfl, hb, ht, hc⟩ := hA.at_ (k := k) hlt
        go_wp2
        · have h : (100 : Int) < ((str t).size : Int) := by assumption
          go_ret
          exact ⟨ret_bool (few_no hm ht h), rfl⟩
        · have h : ((str t).size : Int) ≤ 100 := by assumption
          go_round
          case rel => exact ⟨k + 1, by omega, by omega, by go_num, Lib.hid (few_step hq.out ht (by omega))⟩
          case measure => simp [intOf]; omega
      · go_wp2
        go_ret
        exact ⟨ret_bool (few_end hl (.inr ⟨by omega, hlt⟩) hq.out), rfl⟩
    · obtain rfl : k = n := by omega
      by_cases hm : k ≤ most
      · go_wp2
        go_ret
        exact ⟨ret_bool (by rw [← few_end hl (.inl rfl) hq.out]; simpa using hm), rfl⟩
      · go_wp2
        go_ret
        exact ⟨ret_bool (by rw [← few_end hl (.inl rfl) hq.out]; simpa using hm), rfl⟩
end Go.Proofs.YtdfpifipkchmnaaDoor
/- Proved here: texts cut by two indices. -/
namespace Go.Proofs.YtdfpifipkchmnaaDoor
open Go.RowKit
set_option linter.unusedVariables false

/-- What lies in a span. -/
def cutL {α : Type} (l : List α) (f t : Int) : List α := (l.drop f.toNat).take (t - f).toNat
theorem cutL_len {α : Type} {l : List α} {f t : Int} (h0 : 0 ≤ f) (h1 : f ≤ t) (h2 : t ≤ l.length) : (cutL l f t).length = (t - f).toNat := by
  unfold cutL
  rw [List.length_take, List.length_drop]
  omega
set_option maxRecDepth 100000 in
/-- A part of texts, cut by two indices. -/
theorem slice_txs {w : World} {B n c : Nat} {A : Option Addr} {ss : List (List UInt8)} {f t : Int} (h : TxR w B (A, n, c) ss) (h0 : 0 ≤ f) (h1 : f ≤ t) (h2 : t ≤ n) :
    ∃ A' m k, (∀ W : World, (Instr.slice 22 (.slice A n c) (some (.int .i64 f)) (some (.int .i64 t)) none).run Tryd.prog W = .ok (.slice A' m k) W) ∧ TxR w B (A', m, k) (cutL ss f t) ∧ (0 < m → ∀ q o, A' = some ⟨q, o, none⟩ → ∃ o', A = some ⟨q, o', none⟩) ∧ m = (t - f).toNat := by
  obtain ⟨e1, e2, e3⟩ := h
  dsimp only at e1 e2 e3
  have hl := e3.len
  have hm : t.toNat - f.toNat = (t - f).toNat := by omega
  refine ⟨(if c = f.toNat then A else A.map (·.add f.toNat)), t.toNat - f.toNat, c - f.toNat, fun W => ?_, ⟨?_, ?_, ?_⟩, fun hn q o e => ?_, hm⟩
  · rw [run_slice_lh (P := Tryd.prog) W 22 A n c Tryd.underlying22 .i64 .i64 f t h0 h1 (by omega)]
    go_simp
  · show t.toNat - f.toNat ≤ c - f.toNat
    omega
  · show c - f.toNat ≤ maxLen
    omega
  · show Reads _ _ _ (t.toNat - f.toNat) _
    refine ⟨by rw [List.length_map, cutL_len h0 h1 (by omega)]; omega, fun hn => ?_⟩
    obtain ⟨b, o, rfl, hb, hc⟩ := e3.2 (by omega)
    rw [if_neg (by omega)]
    refine ⟨b, o + f.toNat, ?_, hb, fun j u hu => ?_⟩
    · simp only [Option.map_some]
      unfold Addr.add
      split
      · rename_i h
        rw [h]; rfl
      · rfl
    · rw [Nat.add_assoc]
      refine hc _ u ?_
      have hj := (List.getElem?_eq_some_iff.1 hu).1
      rw [List.length_map, cutL_len h0 h1 (by omega)] at hj
      rw [← hu, List.getElem?_map, List.getElem?_map]
      unfold cutL
      rw [List.getElem?_take, if_pos hj, List.getElem?_drop]
  · obtain ⟨b, o', rfl, hb, hc⟩ := e3.2 (by omega)
    rw [if_neg (by omega)] at e
    simp only [Option.map_some, Option.some.injEq] at e
    unfold Addr.add at e
    refine ⟨o', ?_⟩
    split at e
    · injection e with e1 e2
      subst e1
      rfl
    · injection e with e1 e2
      subst e1
      rfl
end Go.Proofs.YtdfpifipkchmnaaDoor
/- Proved here: contracts of the document's own answers of layer 1: Same (it only reads). -/
namespace Go.Proofs.YtdfpifipkchmnaaDoor
open Go.RowKit
set_option linter.unusedVariables false

theorem same_no {ss ss' : List (List UInt8)} {k : Nat} {t t' : List UInt8} (ht : ss[k]? = some t) (ht' : ss'[k]? = some t') (h : (!(str t).toList == (str t').toList) = true) : false = decide (ss = ss') := by
  rw [eq_comm, decide_eq_false_iff_not]
  rintro rfl
  rw [ht] at ht'
  injection ht' with e
  subst e
  simp at h
theorem same_yes {ss ss' : List (List UInt8)} {k : Nat} {t t' : List UInt8} (hq : ss.take k = ss'.take k) (ht : ss[k]? = some t) (ht' : ss'[k]? = some t') (h : (!(str t).toList == (str t').toList) = false) : ss.take (k + 1) = ss'.take (k + 1) := by
  rw [ByteArray.toList_eq, ByteArray.toList_eq, str_data, str_data] at h
  have e : t = t' := by simpa using h
  rw [take_at ht, take_at ht', hq, e]

set_option maxHeartbeats 400000 in
theorem Same_any (A A' : Option Addr) (n n' c c' B B' : Nat) (ss ss' : List (List UInt8)) (w : World) (hn : n ≤ maxLen) (hn' : n' ≤ maxLen) (hA : Strs w B A n ss) (hA' : Strs w B' A' n' ss') :
    Calls Tryd.prog 11 #[.slice A n c, .slice A' n' c'] w fun e w' => e = .returned (.bool (decide (ss = ss'))) ∧ ∃ k, w' = w.drewN k := by
  unfold maxLen at hn hn'
  have hl := hA.len
  have hl' := hA'.len
  by_cases hnn : n = n'
  · subst hnn
    go_enter Tryd.func11, Tryd.ntmps11
    go_wp2
    go_loopw [5] (fun i wr => ∃ k : Nat, k ≤ n ∧ i = .int .i64 k ∧ Hid (ss.take k = ss'.take k) ∧ ∃ q, wr = w.drewN q) (fun i _ => n - (intOf i).toNat)
    case atStart => exact ⟨0, Nat.zero_le _, rfl, Lib.hid rfl, 0, rfl⟩
    case round =>
      obtain ⟨k, hk, rfl, hq, q, rfl⟩ := hrel
      by_cases hlt : k < n
      · obtain ⟨b, o, t, rfl, hb, ht, hc0⟩ := hA.at_ (k := k) hlt
        obtain ⟨b', o', t', rfl, hb', ht', hc0'⟩ := hA'.at_ (k := k) hlt
        have hi1 : (0 : Int) ≤ (k : Int) := by omega
        have hi2 : (k : Int) < (n : Int) := by omega
        go_wp2
        go_quiet (fail)
        go_wp2
        · have h : (!(str t).toList == (str t').toList) = true := by assumption
          go_ret
          exact ⟨ret_bool (same_no ht ht' h), q + nq, World.drewN_drewN _ _ _⟩
        · have h : (!(str t).toList == (str t').toList) = false := by assumption
          go_roundw
          case rel => exact ⟨k + 1, by omega, by go_num, Lib.hid (same_yes hq.out ht ht' h), q + nq, rfl⟩
          case measure => simp [intOf]; omega
      · go_wp2
        go_ret
        exact ⟨ret_bool (by rw [eq_comm, decide_eq_true_iff]; have := hq.out; rwa [List.take_of_length_le (by omega), List.take_of_length_le (by omega)] at this), q, rfl⟩
  · have hne : (((n : Int) != (n' : Int))) = true := by simp; omega
    go_enter Tryd.func11, Tryd.ntmps11
    go_wp2
    go_ret
    exact ⟨ret_bool (by rw [eq_comm, decide_eq_false_iff_not]; rintro rfl; omega), 0, rfl⟩

end Go.Proofs.YtdfpifipkchmnaaDoor
