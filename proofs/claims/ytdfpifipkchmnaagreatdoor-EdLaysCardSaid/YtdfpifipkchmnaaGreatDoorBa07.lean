/- Proved here: texts joined: MergePure, TxtFew, TxtCut, TxtRef. -/
import Derived.Test.YtdfpifipkchmnaaGreatDoorBa03
import Derived.Test.YtdfpifipkchmnaaGreatDoorBa04
import Derived.Test.YtdfpifipkchmnaaGreatDoorBa06
import Derived.Test.YtdfpifipkchmnaaGreatDoorChecked
import Derived.WalkLawsBesides
import Derived.BigFrame
import Derived.Deep.QuietTactic
import Derived.BigQuiet
/- Proved here, without conditions: plain facts on merges: the base as one more side; the parts of chunks, one behind the other; stable chunks have the same of all. -/
namespace Go.Proofs.YtdfpifipkchmnaaGreatDoor
set_option linter.unusedVariables false

/-- The match of a list with itself. -/
def idm (m : Nat) : List Int := (List.range m).map fun (i : Nat) => (i : Int)
/-- A chunk, the base as one more side. -/
def addB (c : Ck) : Ck := (c.1, c.2.1, c.2.2 ++ [c.2.1])
theorem pl_idm {m : Nat} {k : Int} (h0 : 0 ≤ k) (h1 : k < m) : pl (idm m) k = k := by
  unfold pl idm
  rw [List.getElem?_map, List.getElem?_range (by omega)]
  simp
  omega
theorem ends_addB (c : Ck) : ends (addB c) = ends c ++ [c.2.1.2] := by simp [ends, addB]
theorem empty_addB (c : Ck) : emptyB (addB c) = emptyB c := by
  unfold emptyB addB
  simp only [List.any_append, List.any_cons, List.any_nil, Bool.or_false]
  cases decide (c.2.1.1 < c.2.1.2) <;> cases (c.2.2.any fun s => decide (s.1 < s.2)) <;> rfl
theorem head_addB {c : Ck} {prev : Option Bool} {b : Int} {a : List Int} (h : Head c prev b a) : Head (addB c) prev b (a ++ [b]) where
  base := h.base
  le := h.le
  len := by simp [addB, h.len]
  alt := h.alt
  full := by rw [empty_addB]; exact h.full
  side := fun s sp v h1 h2 => by
    have hl := h.len
    unfold addB at h1 ⊢
    dsimp only at h1 ⊢
    rcases Nat.lt_or_ge s a.length with hs | hs
    · rw [List.getElem?_append_left (by omega)] at h1
      rw [List.getElem?_append_left hs] at h2
      exact h.side s sp v h1 h2
    · rw [List.getElem?_append_right (by omega)] at h1
      rw [List.getElem?_append_right hs] at h2
      have hs0 : s = a.length := by
        have := (List.getElem?_eq_some_iff.1 h2).1
        simp at this
        omega
      subst hs0
      rw [hl, Nat.sub_self] at h1
      rw [Nat.sub_self] at h2
      simp at h1 h2
      subst h1
      subst h2
      exact ⟨h.base, h.le, fun _ => rfl⟩
theorem cov_addB {m : Int} {sizes : List Int} : ∀ {cs : List Ck} {prev : Option Bool} {b : Int} {a : List Int}, Cov m sizes cs prev b a → Cov m (sizes ++ [m]) (cs.map addB) prev b (a ++ [b])
  | [], _, _, _, h => by
    obtain ⟨rfl, rfl⟩ := h
    exact ⟨rfl, rfl⟩
  | c :: cs, prev, b, a, h => by
    refine ⟨head_addB h.1, ?_⟩
    have h2 := cov_addB h.2
    rw [← ends_addB] at h2
    exact h2
/-- Where a chunk lies. -/
theorem cov_lies {m : Int} {sizes : List Int} : ∀ {cs : List Ck} {prev : Option Bool} {b : Int} {a : List Int}, Cov m sizes cs prev b a → ∀ c ∈ cs, b ≤ c.2.1.1 ∧ c.2.1.1 ≤ c.2.1.2 ∧ c.2.1.2 ≤ m ∧ c.2.2.length = sizes.length
  | [], _, _, _, _, c, hc => by cases hc
  | d :: cs, prev, b, a, h, c, hc => by
    have hb := h.1.base
    have hle := h.1.le
    have hm := Cov.le h.2
    rcases List.mem_cons.1 hc with rfl | hc
    · exact ⟨by omega, by omega, hm.1, by rw [← hm.2.1, ends_len]⟩
    · have := cov_lies h.2 c hc
      exact ⟨by omega, this.2.1, this.2.2.1, this.2.2.2⟩
theorem places_addB {m : Nat} {ms : List (List Int)} {c : Ck} (hl : c.2.2.length = ms.length) (h0 : 0 ≤ c.2.1.1) (h1 : c.2.1.2 ≤ m) (h : Places ms c) : Places (ms ++ [idm m]) (addB c) := by
  intro k k1 k2
  have k1' : c.2.1.1 ≤ k := k1
  have k2' : k < c.2.1.2 := k2
  obtain ⟨q1, q2⟩ := h k k1' k2'
  have hp := pl_idm (m := m) (k := k) (by omega) (by omega)
  refine ⟨?_, fun hc s l sp e1 e2 => ?_⟩
  · show allP (ms ++ [idm m]) k = c.1
    unfold allP at q1 ⊢
    rw [List.all_append, q1]
    simp [hp]
    omega
  · have e2' : (c.2.2 ++ [c.2.1])[s]? = some sp := e2
    show pl l k = sp.1 + k - c.2.1.1
    rcases Nat.lt_or_ge s ms.length with hs | hs
    · rw [List.getElem?_append_left hs] at e1
      rw [List.getElem?_append_left (by omega)] at e2'
      exact q2 hc s l sp e1 e2'
    · rw [List.getElem?_append_right hs] at e1
      rw [List.getElem?_append_right (by omega)] at e2'
      have hs0 : s = ms.length := by
        have := (List.getElem?_eq_some_iff.1 e1).1
        simp at this
        omega
      subst hs0
      rw [Nat.sub_self] at e1
      rw [hl, Nat.sub_self] at e2'
      simp at e1 e2'
      subst e1
      subst e2'
      rw [hp]
      omega
/-- The chunks, the base as one more side. -/
theorem cut_base {m : Nat} {sizes : List Int} {ms : List (List Int)} {cs : List Ck} (hl : ms.length = sizes.length) (h : IsCut m sizes ms cs) : IsCut m (sizes ++ [(m : Int)]) (ms ++ [idm m]) (cs.map addB) := by
  obtain ⟨h1, h2⟩ := h
  refine ⟨?_, fun e he => ?_⟩
  · have := cov_addB h1
    rw [List.length_append, List.length_singleton, ← List.replicate_append_replicate]
    exact this
  · obtain ⟨c, hc, rfl⟩ := List.mem_map.1 he
    obtain ⟨k1, k2, k3, k4⟩ := cov_lies h1 c hc
    exact places_addB (by omega) (by omega) k3 (h2 c hc)
theorem sel_addB (p : List Nat) (c : Ck) (n : Nat) (hn : c.2.2.length = n) : selC p (addB c) = (c.1, c.2.1, p.map fun i => if i = n then c.2.1 else (c.2.2[i]?).getD (0, 0)) := by
  unfold selC addB sel
  simp only [Prod.mk.injEq, true_and]
  apply List.map_congr_left
  intro i _
  subst hn
  rcases Nat.lt_trichotomy i c.2.2.length with h | h | h
  · rw [List.getElem?_append_left h, if_neg (by omega)]
  · subst h
    rw [List.getElem?_append_right (Nat.le_refl _)]
    simp
  · rw [List.getElem?_append_right (by omega), if_neg (by omega), List.getElem?_eq_none (by simp; omega), List.getElem?_eq_none (by omega)]
end Go.Proofs.YtdfpifipkchmnaaGreatDoor
/- Proved here: the contract of the document's own answer of layer 1: Few (it only reads). -/
namespace Go.Proofs.YtdfpifipkchmnaaGreatDoor
open Go.RowKit
set_option linter.unusedVariables false

theorem infoTxs : (Tryz.prog.info? 22).map (fun i => (i.zero, i.size, i.bytes)) = some (some (.slice none 0 0), 1, 24) := by kernel_rfl
/-- At most 'most' texts, of 100 bytes at most. -/
def fewB (ss : List (List UInt8)) (most : Nat) : Bool := decide (ss.length ≤ most) && (ss.take (most + 1)).all fun s => decide (s.length ≤ 100)

theorem few_step {ss : List (List UInt8)} {k : Nat} {t : List UInt8} (hq : (ss.take k).all (fun s => decide (s.length ≤ 100)) = true) (ht : ss[k]? = some t) (h : ¬ (100 : Int) < ((str t).size : Int)) : (ss.take (k + 1)).all (fun s => decide (s.length ≤ 100)) = true := by
  rw [str_size] at h
  rw [take_at ht, List.all_append, hq]
  simp; omega
theorem few_no {ss : List (List UInt8)} {k most : Nat} {t : List UInt8} (hk : k ≤ most) (ht : ss[k]? = some t) (h : (100 : Int) < ((str t).size : Int)) : false = fewB ss most := by
  rw [str_size] at h
  unfold fewB
  have hm : t ∈ ss.take (most + 1) := List.mem_of_getElem? (i := k) (by rw [List.getElem?_take]; rw [if_pos (by omega)]; exact ht)
  rw [eq_comm, Bool.and_eq_false_iff]
  right
  rw [Bool.eq_false_iff, ne_eq, List.all_eq_true]
  intro ha
  have := ha t hm
  simp at this
  omega

theorem few_end {ss : List (List UInt8)} {k n most : Nat} (hl : ss.length = n) (h : k = n ∨ most < k ∧ k < n) (hq : (ss.take k).all (fun s => decide (s.length ≤ 100)) = true) : decide (n ≤ most) = fewB ss most := by
  unfold fewB
  rw [hl]
  by_cases hm : n ≤ most
  · have : k = n := by omega
    subst this
    rw [List.take_of_length_le (by omega)] at hq
    rw [List.take_of_length_le (by omega), hq]
    simp
  · simp [hm]

set_option maxHeartbeats 400000 in
theorem Few_any (A : Option Addr) (n c most B : Nat) (ss : List (List UInt8)) (w : World) (hn : n ≤ maxLen) (hmo : most ≤ 1000000) (hA : Strs w B A n ss) :
    Calls Tryz.prog 8 #[.slice A n c, .int .i64 most] w fun e w' => e = .returned (.bool (fewB ss most)) ∧ w = w' := by
  unfold maxLen at hn
  have hl := hA.len
  go_enter Tryz.func8, Tryz.ntmps8
  go_wp2
  go_loop [5] (fun i => ∃ k : Nat, k ≤ n ∧ k ≤ most + 1 ∧ i = .int .i64 k ∧ Hid ((ss.take k).all (fun s => decide (s.length ≤ 100)) = true)) (fun i => n - (intOf i).toNat)
  case atStart => exact ⟨0, Nat.zero_le _, Nat.zero_le _, rfl, Lib.hid rfl⟩
  case round =>
    obtain ⟨k, hk, hkm, rfl, hq⟩ := hrel
    by_cases hlt : k < n
    · by_cases hm : k ≤ most
      · obtain ⟨b, o, t, rfl, hb, ht, hc⟩ := hA.at_ (k := k) hlt
        go_wp2
        · have h : (100 : Int) < ((str t).size : Int) := by assumption
          go_ret
          exact ⟨ret_bool (few_no hm ht h), rfl⟩
        · have h : ((str t).size : Int) ≤ 100 := by assumption
          go_round
          case rel => exact ⟨k + 1, by omega, by omega, by go_num, Lib.hid (few_step hq.out ht (by omega))⟩
          case measure => simp [intOf]; omega
      · go_wp2
        go_ret
        exact ⟨ret_bool (few_end hl (.inr ⟨by omega, hlt⟩) hq.out), rfl⟩
    · obtain rfl : k = n := by omega
      by_cases hm : k ≤ most
      · go_wp2
        go_ret
        exact ⟨ret_bool (by rw [← few_end hl (.inl rfl) hq.out]; simpa using hm), rfl⟩
      · go_wp2
        go_ret
        exact ⟨ret_bool (by rw [← few_end hl (.inl rfl) hq.out]; simpa using hm), rfl⟩
end Go.Proofs.YtdfpifipkchmnaaGreatDoor
/- Proved here: texts cut by two indices. -/
namespace Go.Proofs.YtdfpifipkchmnaaGreatDoor
open Go.RowKit
set_option linter.unusedVariables false

/-- What lies in a span. -/
def cutL {α : Type} (l : List α) (f t : Int) : List α := (l.drop f.toNat).take (t - f).toNat
theorem cutL_len {α : Type} {l : List α} {f t : Int} (h0 : 0 ≤ f) (h1 : f ≤ t) (h2 : t ≤ l.length) : (cutL l f t).length = (t - f).toNat := by
  unfold cutL
  rw [List.length_take, List.length_drop]
  omega
set_option maxRecDepth 100000 in
/-- A part of texts, cut by two indices. -/
theorem slice_txs {w : World} {B n c : Nat} {A : Option Addr} {ss : List (List UInt8)} {f t : Int} (h : TxR w B (A, n, c) ss) (h0 : 0 ≤ f) (h1 : f ≤ t) (h2 : t ≤ n) :
    ∃ A' m k, (∀ W : World, (Instr.slice 22 (.slice A n c) (some (.int .i64 f)) (some (.int .i64 t)) none).run Tryz.prog W = .ok (.slice A' m k) W) ∧ TxR w B (A', m, k) (cutL ss f t) ∧ (0 < m → ∀ q o, A' = some ⟨q, o, none⟩ → ∃ o', A = some ⟨q, o', none⟩) ∧ m = (t - f).toNat := by
  obtain ⟨e1, e2, e3⟩ := h
  dsimp only at e1 e2 e3
  have hl := e3.len
  have hm : t.toNat - f.toNat = (t - f).toNat := by omega
  refine ⟨(if c = f.toNat then A else A.map (·.add f.toNat)), t.toNat - f.toNat, c - f.toNat, fun W => ?_, ⟨?_, ?_, ?_⟩, fun hn q o e => ?_, hm⟩
  · rw [run_slice_lh (P := Tryz.prog) W 22 A n c Tryz.underlying22 .i64 .i64 f t h0 h1 (by omega)]
    go_simp
  · show t.toNat - f.toNat ≤ c - f.toNat
    omega
  · show c - f.toNat ≤ maxLen
    omega
  · show Reads _ _ _ (t.toNat - f.toNat) _
    refine ⟨by rw [List.length_map, cutL_len h0 h1 (by omega)]; omega, fun hn => ?_⟩
    obtain ⟨b, o, rfl, hb, hc⟩ := e3.2 (by omega)
    rw [if_neg (by omega)]
    refine ⟨b, o + f.toNat, ?_, hb, fun j u hu => ?_⟩
    · simp only [Option.map_some]
      unfold Addr.add
      split
      · rename_i h
        rw [h]; rfl
      · rfl
    · rw [Nat.add_assoc]
      refine hc _ u ?_
      have hj := (List.getElem?_eq_some_iff.1 hu).1
      rw [List.length_map, cutL_len h0 h1 (by omega)] at hj
      rw [← hu, List.getElem?_map, List.getElem?_map]
      unfold cutL
      rw [List.getElem?_take, if_pos hj, List.getElem?_drop]
  · obtain ⟨b, o', rfl, hb, hc⟩ := e3.2 (by omega)
    rw [if_neg (by omega)] at e
    simp only [Option.map_some, Option.some.injEq] at e
    unfold Addr.add at e
    refine ⟨o', ?_⟩
    split at e
    · injection e with e1 e2
      subst e1
      rfl
    · injection e with e1 e2
      subst e1
      rfl
end Go.Proofs.YtdfpifipkchmnaaGreatDoor
/- Proved here: contracts of the document's own answers of layer 1: Same (it only reads). -/
namespace Go.Proofs.YtdfpifipkchmnaaGreatDoor
open Go.RowKit
set_option linter.unusedVariables false

theorem same_no {ss ss' : List (List UInt8)} {k : Nat} {t t' : List UInt8} (ht : ss[k]? = some t) (ht' : ss'[k]? = some t') (h : (!(str t).toList == (str t').toList) = true) : false = decide (ss = ss') := by
  rw [eq_comm, decide_eq_false_iff_not]
  rintro rfl
  rw [ht] at ht'
  injection ht' with e
  subst e
  simp at h
theorem same_yes {ss ss' : List (List UInt8)} {k : Nat} {t t' : List UInt8} (hq : ss.take k = ss'.take k) (ht : ss[k]? = some t) (ht' : ss'[k]? = some t') (h : (!(str t).toList == (str t').toList) = false) : ss.take (k + 1) = ss'.take (k + 1) := by
  rw [ByteArray.toList_eq, ByteArray.toList_eq, str_data, str_data] at h
  have e : t = t' := by simpa using h
  rw [take_at ht, take_at ht', hq, e]

set_option maxHeartbeats 400000 in
theorem Same_any (A A' : Option Addr) (n n' c c' B B' : Nat) (ss ss' : List (List UInt8)) (w : World) (hn : n ≤ maxLen) (hn' : n' ≤ maxLen) (hA : Strs w B A n ss) (hA' : Strs w B' A' n' ss') :
    Calls Tryz.prog 11 #[.slice A n c, .slice A' n' c'] w fun e w' => e = .returned (.bool (decide (ss = ss'))) ∧ ∃ k, w' = w.drewN k := by
  unfold maxLen at hn hn'
  have hl := hA.len
  have hl' := hA'.len
  by_cases hnn : n = n'
  · subst hnn
    go_enter Tryz.func11, Tryz.ntmps11
    go_wp2
    go_loopw [5] (fun i wr => ∃ k : Nat, k ≤ n ∧ i = .int .i64 k ∧ Hid (ss.take k = ss'.take k) ∧ ∃ q, wr = w.drewN q) (fun i _ => n - (intOf i).toNat)
    case atStart => exact ⟨0, Nat.zero_le _, rfl, Lib.hid rfl, 0, rfl⟩
    case round =>
      obtain ⟨k, hk, rfl, hq, q, rfl⟩ := hrel
      by_cases hlt : k < n
      · obtain ⟨b, o, t, rfl, hb, ht, hc0⟩ := hA.at_ (k := k) hlt
        obtain ⟨b', o', t', rfl, hb', ht', hc0'⟩ := hA'.at_ (k := k) hlt
        have hi1 : (0 : Int) ≤ (k : Int) := by omega
        have hi2 : (k : Int) < (n : Int) := by omega
        go_wp2
        go_quiet (fail)
        go_wp2
        · have h : (!(str t).toList == (str t').toList) = true := by assumption
          go_ret
          exact ⟨ret_bool (same_no ht ht' h), q + nq, World.drewN_drewN _ _ _⟩
        · have h : (!(str t).toList == (str t').toList) = false := by assumption
          go_roundw
          case rel => exact ⟨k + 1, by omega, by go_num, Lib.hid (same_yes hq.out ht ht' h), q + nq, rfl⟩
          case measure => simp [intOf]; omega
      · go_wp2
        go_ret
        exact ⟨ret_bool (by rw [eq_comm, decide_eq_true_iff]; have := hq.out; rwa [List.take_of_length_le (by omega), List.take_of_length_le (by omega)] at this), q, rfl⟩
  · have hne : (((n : Int) != (n' : Int))) = true := by simp; omega
    go_enter Tryz.func11, Tryz.ntmps11
    go_wp2
    go_ret
    exact ⟨ret_bool (by rw [eq_comm, decide_eq_false_iff_not]; rintro rfl; omega), 0, rfl⟩

end Go.Proofs.YtdfpifipkchmnaaGreatDoor
