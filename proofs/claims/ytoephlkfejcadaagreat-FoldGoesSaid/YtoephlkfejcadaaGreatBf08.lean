/- Proved here: texts joined: AlnStep, AlnFns, CkSl, Pcs, Push. -/
import Derived.Test.YtoephlkfejcadaaGreatBf01
import Derived.Test.YtoephlkfejcadaaGreatBf02
import Derived.Test.YtoephlkfejcadaaGreatBf03
import Derived.Test.YtoephlkfejcadaaGreatBf04
import Derived.Test.YtoephlkfejcadaaGreatBf07
import Derived.Test.YtoephlkfejcadaaGreatChecked
import Derived.WalkLawsBesides
import Derived.Deep.QuietTactic
import Derived.BigQuiet
import Derived.Maps.AppendAt
import Derived.OwnWalk
import Derived.IntWalk
/- Proved here, without conditions: the document's chunks (layer 5), stable places one by one: they are those of the matches. -/
namespace Go.Proofs.YtoephlkfejcadaaGreat
set_option linter.unusedVariables false

/-- Where chunks of n sides end. -/
def endB (out : List Ck) : Int := match out.getLast? with | none => 0 | some c => c.2.1.2
def endA (n : Nat) (out : List Ck) : List Int := match out.getLast? with | none => List.replicate n 0 | some c => ends c
theorem endB_snoc (l : List Ck) (c : Ck) : endB (l ++ [c]) = c.2.1.2 := by simp [endB]
theorem endA_snoc (n : Nat) (l : List Ck) (c : Ck) : endA n (l ++ [c]) = ends c := by simp [endA]
/-- Do place k, and the one ahead, stand together? -/
def tog (ms : List (List Int)) (k : Nat) : Prop := 0 < k ∧ allP ms ((k : Int) - 1) = true ∧ ∀ l ∈ ms, pl l k = pl l ((k : Int) - 1) + 1
/-- Two chunks as one. -/
def longerC (c d : Ck) : Ck := (c.1, (c.2.1.1, d.2.1.2), List.zipWith (fun (s t : Sp) => (s.1, t.2)) c.2.2 d.2.2)
/-- The document's chunks, as far as place k: the last run may go on. -/
def RefIn (m : Nat) (sizes : List Int) (ms : List (List Int)) (k : Nat) (out : List Ck) : Prop :=
  ((∀ j : Int, 0 ≤ j → j < k → allP ms j = false) ∧ out = []) ∨
  ∃ (cs : List Ck) (p : Option Bool) (b : Int) (a : List Int) (e t : Nat), CutIn m sizes ms cs p b a ∧ b ≤ e ∧ e < t ∧ t ≤ k ∧ (∀ j, b ≤ j → j < e → allP ms j = false) ∧ allP ms e = true ∧ (∀ j : Int, (e : Int) < j → j < t → allP ms j = true ∧ ∀ l ∈ ms, pl l j = pl l (j - 1) + 1) ∧
    (∀ j : Int, (t : Int) ≤ j → j < k → allP ms j = false) ∧ out = putC cs (ckOf false b e a (plAll ms e)) ++ [ckOf true e t (plAll ms e) (plUp ms ((t : Int) - 1))]

section
variable {m k : Nat} {sizes : List Int} {ms : List (List Int)} {out : List Ck}
theorem RefIn.start (m : Nat) (sizes : List Int) (ms : List (List Int)) : RefIn m sizes ms 0 [] := .inl ⟨fun j h1 h2 => by omega, rfl⟩
theorem RefIn.miss (h : RefIn m sizes ms k out) (hk : allP ms k = false) : RefIn m sizes ms (k + 1) out := by
  rcases h with ⟨h1, h2⟩ | ⟨cs, p, b, a, e, t, h1, h2, h3, h4, h5, h6, h7, h8, h9⟩
  · refine .inl ⟨fun j j1 j2 => ?_, h2⟩
    rcases Int.lt_or_le j k with h | h
    · exact h1 j j1 h
    · rw [show j = k by push_cast at j2; omega]; exact hk
  · refine .inr ⟨cs, p, b, a, e, t, h1, h2, h3, by omega, h5, h6, h7, fun j j1 j2 => ?_, h9⟩
    rcases Int.lt_or_le j k with h | h
    · exact h8 j j1 h
    · rw [show j = k by push_cast at j2; omega]; exact hk
theorem ck_ends {st : Bool} {b e : Int} {a f : List Int} (h : a.length = f.length) : ends (ckOf st b e a f) = f := zip_ends h st b e
/-- A run that is over. -/
theorem RefIn.cut (hm : ∀ (k : Nat) (l : List Int) (z : Int), ms[k]? = some l → sizes[k]? = some z → IsMatch m l z) (hml : ms.length = sizes.length) (h : RefIn m sizes ms k out) (hkm : k ≤ m) (hno : ¬ tog ms k ∨ k = m) :
    ∃ p, CutIn m sizes ms out p (endB out) (endA sizes.length out) ∧ endB out ≤ k ∧ ∀ j, endB out ≤ j → j < k → allP ms j = false := by
  rcases h with ⟨h1, rfl⟩ | ⟨cs, p, b, a, e, t, h1, h2, h3, h4, h5, h6, h7, h8, rfl⟩
  · exact ⟨none, CutIn.start m sizes ms, Int.natCast_nonneg k, h1⟩
  · have hrun : ∀ j : Int, (e : Int) < j → j < t → ∀ l ∈ ms, pl l j = pl l (j - 1) + 1 := fun j j1 j2 => (h7 j j1 j2).2
    have ht1 : allP ms ((t : Int) - 1) = true := by
      rcases Int.lt_or_le e ((t : Int) - 1) with h | h
      · exact (h7 _ h (by omega)).1
      · rw [show (t : Int) - 1 = e by omega]; exact h6
    have hend : (t : Int) < m → ∃ l ∈ ms, pl l t ≠ pl l ((t : Int) - 1) + 1 := by
      intro htm
      rcases Nat.lt_or_ge t k with htk | htk
      · have hx := h8 t (Int.le_refl _) (by omega)
        unfold allP at hx
        rw [List.all_eq_false] at hx
        obtain ⟨l, hl, hx⟩ := hx
        refine ⟨l, hl, fun e => ?_⟩
        have := allP_mem ht1 hl
        simp at hx
        omega
      · have htk2 : t = k := by omega
        subst htk2
        rcases hno with hno | hno
        · apply Classical.byContradiction
          intro hc
          apply hno
          refine ⟨by omega, ht1, fun l hl => ?_⟩
          apply Classical.byContradiction
          intro hne
          exact hc ⟨l, hl, hne⟩
        · omega
    have hs := h1.step hm hml (e := e) (t := t) h2 (by omega) (by omega) h5 h6 hrun hend
    have hf : emptyB (ckOf true e t (plAll ms e) (plUp ms ((t : Int) - 1))) = false := full_of (by omega)
    have hput : putC (putC cs (ckOf false b e a (plAll ms e))) (ckOf true e t (plAll ms e) (plUp ms ((t : Int) - 1))) = putC cs (ckOf false b e a (plAll ms e)) ++ [ckOf true e t (plAll ms e) (plUp ms ((t : Int) - 1))] := by
      conv => lhs; rw [putC]
      rw [if_neg (by rw [hf]; simp)]
    rw [hput] at hs
    refine ⟨some true, ?_, ?_, fun j j1 j2 => ?_⟩
    · rw [endB_snoc, endA_snoc, ck_ends (by rw [plAll_len, plUp_len])]
      exact hs
    · rw [endB_snoc]
      show (t : Int) ≤ k
      omega
    · rw [endB_snoc] at j1
      exact h8 j j1 j2
theorem gap_eq (hm : ∀ (k : Nat) (l : List Int) (z : Int), ms[k]? = some l → sizes[k]? = some z → IsMatch m l z) (hml : ms.length = sizes.length) {cs : List Ck} {p : Option Bool} {b : Int} {a : List Int} (h : CutIn m sizes ms cs p b a) (hbk : b ≤ k) (hk : allP ms k = true)
    (hem : emptyB (ckOf false b k a (plAll ms k)) = true) : b = k ∧ a = plAll ms k := by
  obtain ⟨p1, p2⟩ := empty_parts hem
  refine ⟨by omega, ?_⟩
  refine List.ext_getElem? fun s => ?_
  have hl := h.len
  have hpl := plAll_len ms k
  rcases Nat.lt_or_ge s a.length with hs | hs
  · have hu : a[s]? = some a[s] := List.getElem?_eq_getElem hs
    have hv : (plAll ms k)[s]? = some ((plAll ms k)[s]'(by omega)) := List.getElem?_eq_getElem _
    obtain ⟨l, hl2, hlv⟩ := plAll_at hv
    have k1 := h.ahead hm hml hbk hk hu hl2
    have k2 := p2 s _ _ hu hv
    rw [hu, hv]
    congr 1
    omega
  · rw [List.getElem?_eq_none hs, List.getElem?_eq_none (by omega)]
/-- A run that begins. -/
theorem RefIn.fresh (hm : ∀ (k : Nat) (l : List Int) (z : Int), ms[k]? = some l → sizes[k]? = some z → IsMatch m l z) (hml : ms.length = sizes.length) (h : RefIn m sizes ms k out) (hkm : k < m) (hk : allP ms k = true) (hno : ¬ tog ms k) :
    endB (putC out (ckOf false (endB out) k (endA sizes.length out) (plAll ms k))) = k ∧ endA sizes.length (putC out (ckOf false (endB out) k (endA sizes.length out) (plAll ms k))) = plAll ms k ∧
      RefIn m sizes ms (k + 1) (putC out (ckOf false (endB out) k (endA sizes.length out) (plAll ms k)) ++ [ckOf true k (k + 1 : Nat) (plAll ms k) (plUp ms k)]) := by
  obtain ⟨p, hc, hle, hz⟩ := h.cut hm hml (by omega) (.inl hno)
  have hlen := hc.len
  refine ⟨?_, ?_, .inr ⟨out, p, _, _, k, k + 1, hc, hle, by omega, Nat.le_refl _, hz, hk, fun j j1 j2 => by push_cast at j2; omega, fun j j1 j2 => by push_cast at j1 j2; omega, ?_⟩⟩
  · by_cases hem : emptyB (ckOf false (endB out) k (endA sizes.length out) (plAll ms k)) = true
    · rw [putC, if_pos hem]
      exact (gap_eq hm hml hc hle hk hem).1
    · rw [putC, if_neg hem, endB_snoc]
      rfl
  · by_cases hem : emptyB (ckOf false (endB out) k (endA sizes.length out) (plAll ms k)) = true
    · rw [putC, if_pos hem]
      exact (gap_eq hm hml hc hle hk hem).2
    · rw [putC, if_neg hem, endA_snoc, ck_ends (by rw [plAll_len, hml]; exact hlen)]
  · rw [show (((k + 1 : Nat) : Int) - 1) = (k : Int) by push_cast; omega]
/-- A run that goes on. -/
theorem RefIn.joined (hml : ms.length = sizes.length) (h : RefIn m sizes ms k out) (ht : tog ms k) (hk : allP ms k = true) :
    endB out = k ∧ endA sizes.length out = plAll ms k ∧ emptyB (ckOf false (endB out) k (endA sizes.length out) (plAll ms k)) = true ∧
      ∃ cs c, out = cs ++ [c] ∧ c.2.2.length = ms.length ∧ RefIn m sizes ms (k + 1) (cs ++ [longerC c (ckOf true k (k + 1 : Nat) (plAll ms k) (plUp ms k))]) := by
  obtain ⟨h0, hst, hall⟩ := ht
  rcases h with ⟨h1, -⟩ | ⟨cs, p, b, a, e, t, h1, h2, h3, h4, h5, h6, h7, h8, rfl⟩
  · rw [h1 ((k : Int) - 1) (by omega) (by omega)] at hst
    cases hst
  · have htk : t = k := by
      rcases Nat.lt_or_ge t k with hlt | hge
      · rw [h8 ((k : Int) - 1) (by omega) (by omega)] at hst
        cases hst
      · omega
    subst htk
    have hup : plUp ms ((t : Int) - 1) = plAll ms t := by
      unfold plUp plAll
      exact List.map_congr_left fun l hl => (hall l hl).symm
    have e1 : endB (putC cs (ckOf false b e a (plAll ms e)) ++ [ckOf true e t (plAll ms e) (plUp ms ((t : Int) - 1))]) = t := endB_snoc _ _
    have e2 : endA sizes.length (putC cs (ckOf false b e a (plAll ms e)) ++ [ckOf true e t (plAll ms e) (plUp ms ((t : Int) - 1))]) = plAll ms t := by rw [endA_snoc, ck_ends (by rw [plAll_len, plUp_len]), hup]
    refine ⟨e1, e2, ?_, putC cs (ckOf false b e a (plAll ms e)), _, rfl, ?_, ?_⟩
    · rw [e1, e2]
      unfold emptyB ckOf
      simp only [Bool.not_eq_true', Bool.or_eq_false_iff, decide_eq_false_iff_not, List.any_eq_false, decide_eq_true_eq]
      refine ⟨by omega, fun sp hsp => ?_⟩
      obtain ⟨s, hs⟩ := List.mem_iff_getElem?.1 hsp
      obtain ⟨u1, u2⟩ := zip_at hs
      rw [u1] at u2
      injection u2 with u2
      omega
    · show (List.zip (plAll ms e) (plUp ms ((t : Int) - 1))).length = _
      rw [List.length_zip, plAll_len, plUp_len]
      omega
    · refine .inr ⟨cs, p, b, a, e, t + 1, h1, h2, by omega, Nat.le_refl _, h5, h6, fun j j1 j2 => ?_, fun j j1 j2 => by push_cast at j1 j2; omega, ?_⟩
      · rcases Int.lt_or_le j t with hj | hj
        · exact h7 j j1 hj
        · rw [show j = t by push_cast at j2; omega]
          exact ⟨hk, hall⟩
      · congr 2
        unfold longerC ckOf
        rw [show (((t + 1 : Nat) : Int) - 1) = (t : Int) by push_cast; omega]
        congr 2
        refine List.ext_getElem? fun s => ?_
        rw [List.getElem?_zipWith]
        rcases Nat.lt_or_ge s ms.length with hs | hs
        · have q1 : (plAll ms e)[s]? = some (pl ms[s] e) := by unfold plAll; rw [List.getElem?_map, List.getElem?_eq_getElem hs]; rfl
          have q2 : (plUp ms ((t : Int) - 1))[s]? = some (pl ms[s] ((t : Int) - 1) + 1) := by unfold plUp; rw [List.getElem?_map, List.getElem?_eq_getElem hs]; rfl
          have q3 : (plAll ms t)[s]? = some (pl ms[s] t) := by unfold plAll; rw [List.getElem?_map, List.getElem?_eq_getElem hs]; rfl
          have q4 : (plUp ms t)[s]? = some (pl ms[s] t + 1) := by unfold plUp; rw [List.getElem?_map, List.getElem?_eq_getElem hs]; rfl
          have z1 : (List.zip (plAll ms e) (plUp ms ((t : Int) - 1)))[s]? = some (pl ms[s] e, pl ms[s] ((t : Int) - 1) + 1) := List.getElem?_zip_eq_some.2 ⟨q1, q2⟩
          have z2 : (List.zip (plAll ms t) (plUp ms t))[s]? = some (pl ms[s] t, pl ms[s] t + 1) := List.getElem?_zip_eq_some.2 ⟨q3, q4⟩
          have z3 : (List.zip (plAll ms e) (plUp ms t))[s]? = some (pl ms[s] e, pl ms[s] t + 1) := List.getElem?_zip_eq_some.2 ⟨q1, q4⟩
          rw [z1, z2, z3]
        · rw [List.getElem?_eq_none (by rw [List.length_zip, plAll_len, plUp_len]; omega), List.getElem?_eq_none (by rw [List.length_zip, plAll_len, plUp_len]; omega), List.getElem?_eq_none (by rw [List.length_zip, plAll_len, plUp_len]; omega)]
/-- The end. -/
theorem RefIn.finish (hm : ∀ (k : Nat) (l : List Int) (z : Int), ms[k]? = some l → sizes[k]? = some z → IsMatch m l z) (hml : ms.length = sizes.length) (hz : ∀ z ∈ sizes, 0 ≤ z) (h : RefIn m sizes ms m out) :
    IsCut m sizes ms (putC out (ckOf false (endB out) m (endA sizes.length out) sizes)) := by
  obtain ⟨p, hc, hle, hno⟩ := h.cut hm hml (Nat.le_refl _) (.inr rfl)
  exact hc.finish hm hml hz hno
end
end Go.Proofs.YtoephlkfejcadaaGreat
/- Proved here: contracts of the document's own small functions of layer 5 that Align calls: stable, together, places. -/
namespace Go.Proofs.YtoephlkfejcadaaGreat
open Go.RowKit
set_option linter.unusedVariables false

/-- Matches of m places: -1, or a place. -/
def MsR (m : Nat) (ms : List (List Int)) : Prop := ∀ l ∈ ms, l.length = m ∧ ∀ u ∈ l, u ≠ -1 → 0 ≤ u ∧ u ≤ 1000000
theorem MsR.at_ {m : Nat} {ms : List (List Int)} (h : MsR m ms) {i k : Nat} {l : List Int} {u : Int} (hl : ms[i]? = some l) (hu : l[k]? = some u) : pl l k = u ∧ (u = -1 ∨ (0 ≤ u ∧ u ≤ 1000000)) := by
  refine ⟨by unfold pl; rw [Int.toNat_natCast, hu]; rfl, ?_⟩
  by_cases e : u = -1
  · exact .inl e
  · exact .inr ((h l (List.mem_of_getElem? hl)).2 u (List.mem_of_getElem? hu) e)
theorem allP_no {ms : List (List Int)} {i : Nat} {l : List Int} {k : Int} (hl : ms[i]? = some l) (h : pl l k = -1) : false = allP ms k := by
  unfold allP
  rw [eq_comm, List.all_eq_false]
  exact ⟨l, List.mem_of_getElem? hl, by rw [h]; simp⟩
theorem allP_step {ms : List (List Int)} {i : Nat} {l : List Int} {k : Int} (hq : allP (ms.take i) k = true) (hl : ms[i]? = some l) (h : 0 ≤ pl l k) : allP (ms.take (i + 1)) k = true := by
  unfold allP at hq ⊢
  rw [take_at hl, List.all_append, hq]
  simp [h]

set_option maxRecDepth 100000 in
set_option maxHeartbeats 1000000 in
theorem rStable_any (A : Option Addr) (n c B m k : Nat) (rows : List (Option Addr × Nat × Nat)) (ms : List (List Int)) (w : World) (hn : n ≤ 100) (hk : k < m) (hms : MsR m ms) (hA : RowsN w B A n rows ms) :
    Calls Tryz.prog 79 #[.slice A n c, .int .i64 k] w fun e w' => e = .returned (.bool (allP ms k)) ∧ w' = w := by
  have hl := hA.len
  have hmsh := Lib.hid hms
  have hAh := Lib.hid hA
  clear hms hA
  go_enter Tryz.func79, Tryz.ntmps79
  go_wp2
  go_loop [5] (fun s5 => ∃ i : Nat, i ≤ n ∧ s5 = .int .i64 i ∧ Hid (allP (ms.take i) k = true)) (fun s5 => n - (intOf s5).toNat)
  case atStart => exact ⟨0, Nat.zero_le _, rfl, Lib.hid rfl⟩
  case round =>
    obtain ⟨i, hin, rfl, hq⟩ := hrel
    by_cases hlt : i < n
    · obtain ⟨b, o, A1, n1, c1, l, rfl, hb, hml, hc, hN⟩ := hAh.out.at_ hlt
      have hll := (hmsh.out l (List.mem_of_getElem? hml)).1
      have hn1 : n1 = m := by have := hN.len; omega
      subst hn1
      obtain ⟨b1, o1, u, rfl, hb1, hu, hc1⟩ := hN.at_ hk
      obtain ⟨hpl, hur⟩ := hmsh.out.at_ hml hu
      have i1 : (0 : Int) ≤ (i : Int) := by omega
      have i2 : (i : Int) < (n : Int) := by omega
      have i3 : (0 : Int) ≤ (k : Int) := by omega
      have i4 : (k : Int) < (n1 : Int) := by omega
      by_cases hu1 : u = -1
      · have hno := Lib.hid (allP_no hml (hpl.trans hu1))
        subst hu1
        clear hml hu hpl hur hN
        go_wp2
        go_ret
        exact ⟨ret_bool hno.out, rfl⟩
      · have hyes := Lib.hid (allP_step hq.out hml (k := k) (by rw [hpl]; rcases hur with h | h; exact absurd h hu1; exact h.1))
        have hd : (u == -1) = false := by simpa using hu1
        clear hml hu hpl hur hN hu1
        go_wp2
        go_round
        case rel => exact ⟨i + 1, by omega, by go_num, hyes⟩
        case measure => simp [intOf]; omega
    · obtain rfl : i = n := by omega
      have hall : allP ms k = true := by have := hq.out; rwa [List.take_of_length_le (by omega)] at this
      have hallh := Lib.hid hall
      clear hall
      go_wp2
      go_ret
      exact ⟨ret_bool hallh.out.symm, rfl⟩

/-- Do they stand together? -/
def togB (ms : List (List Int)) (k : Nat) : Bool := decide (0 < k) && (allP ms ((k : Int) - 1) && ms.all fun l => pl l k == pl l ((k : Int) - 1) + 1)
theorem togB_iff (ms : List (List Int)) (k : Nat) : togB ms k = true ↔ tog ms k := by
  unfold togB tog
  simp [List.all_eq_true]

theorem tog_no {ms : List (List Int)} {i : Nat} {l : List Int} {k r : Int} (hl : ms[i]? = some l) (h : pl l k ≠ pl l r + 1) : false = ms.all fun l => pl l k == pl l r + 1 := by
  rw [eq_comm, List.all_eq_false]
  exact ⟨l, List.mem_of_getElem? hl, by simpa using h⟩
theorem tog_step {ms : List (List Int)} {i : Nat} {l : List Int} {k r : Int} (hq : ((ms.take i).all fun l => pl l k == pl l r + 1) = true) (hl : ms[i]? = some l) (h : pl l k = pl l r + 1) : ((ms.take (i + 1)).all fun l => pl l k == pl l r + 1) = true := by
  rw [take_at hl, List.all_append, hq]
  simp [h]

set_option maxRecDepth 100000 in
set_option maxHeartbeats 2000000 in
theorem rTogether_any (A : Option Addr) (n c B m k : Nat) (rows : List (Option Addr × Nat × Nat)) (ms : List (List Int)) (w : World) (hn : n ≤ 100) (hk : k < m) (hm : m ≤ 1000000) (hms : MsR m ms) (hA : RowsN w B A n rows ms) :
    Calls Tryz.prog 83 #[.slice A n c, .int .i64 k] w fun e w' => e = .returned (.bool (togB ms k)) ∧ ∃ q, w' = w.drewN q := by
  have hl := hA.len
  rcases Nat.eq_zero_or_pos k with rfl | hpos
  · have e0 : togB ms 0 = false := by simp [togB]
    rw [e0]
    clear hA hms
    go_enter Tryz.func83, Tryz.ntmps83
    go_wp2
    go_ret
    exact ⟨rfl, 0, rfl⟩
  · obtain ⟨r, hr⟩ : ∃ r, k = r + 1 := ⟨k - 1, by omega⟩
    have hS := Lib.hid (rStable_any A n c B m r rows ms w hn (by omega) hms hA)
    have e1 : (k : Int) - 1 = (r : Int) := by omega
    have hT : togB ms k = (allP ms r && ms.all fun l => pl l k == pl l r + 1) := by
      unfold togB
      rw [e1]
      simp [hpos]
    rw [hT]
    obtain ⟨st, hst⟩ : ∃ st, allP ms r = st := ⟨_, rfl⟩
    rw [hst] at hS ⊢
    have hAh := Lib.hid hA
    have hmsh := Lib.hid hms
    have hsth := Lib.hid hst
    have hlh := Lib.hid hl
    have hd0 : ((k : Int) == 0) = false := by simp; omega
    have hrm := Lib.hid (show r < m by omega)
    have hkm := Lib.hid hk
    have i3 : (0 : Int) ≤ (k : Int) := by omega
    have i5 : (0 : Int) ≤ (r : Int) := by omega
    have hkk : (k : Int) ≤ 1000000 := by omega
    have hw1 : IntKind.i64.wrap ((k : Int) - 1) = (r : Int) := by rw [e1]; exact IntWalk.i64_in _ (by omega)
    have hw2 : IntKind.i64.wrap (r : Int) = (r : Int) := IntWalk.i64_in _ (by omega)
    clear hA hms hT hst hpos hr hk hm hl
    cases st
    · go_enter Tryz.func83, Tryz.ntmps83
      go_wp2_with (go_at_call 79; refine hS.out.mono ?_; rintro e w1 ⟨rfl, rfl⟩)
      go_ret
      exact ⟨rfl, 0, rfl⟩
    · go_enter Tryz.func83, Tryz.ntmps83
      go_wp2_with (go_at_call 79; refine hS.out.mono ?_; rintro e w1 ⟨rfl, rfl⟩)
      go_loopw [5] (fun s5 wr => ∃ i : Nat, i ≤ n ∧ s5 = .int .i64 i ∧ Hid (((ms.take i).all fun l => pl l k == pl l r + 1) = true) ∧ Hid (∃ q, wr = w1.drewN q)) (fun s5 _ => n - (intOf s5).toNat)
      case atStart => exact ⟨0, Nat.zero_le _, rfl, Lib.hid rfl, Lib.hid ⟨0, rfl⟩⟩
      case round =>
        obtain ⟨i, hin, rfl, hq, hw⟩ := hrel
        obtain ⟨wo, rfl⟩ : ∃ wo : World, wo = wr := ⟨_, rfl⟩
        have hdr : Hid (∀ j, ∃ q, wo.drewN j = w1.drewN q) := Lib.hid (fun j => by obtain ⟨q, rfl⟩ := hw.out; exact ⟨_, World.drewN_drewN _ _ _⟩)
        have hAo : Hid (RowsN wo B A n rows ms) := Lib.hid (by obtain ⟨q, rfl⟩ := hw.out; exact hAh.out.drewN q)
        by_cases hlt : i < n
        · obtain ⟨b, o, A1, n1, c1, l, rfl, hb, hml, hc, hN⟩ := hAo.out.at_ hlt
          have hn1 : n1 = m := by have := hN.len; have := (hmsh.out l (List.mem_of_getElem? hml)).1; omega
          subst hn1
          obtain ⟨b1, o1, u, rfl, hb1, hu, hc1⟩ := hN.at_ hkm.out
          obtain ⟨b2, o2, v, he, hb2, hv, hc2⟩ := hN.at_ hrm.out
          injection he with he
          injection he with he1 he2
          subst he1
          subst he2
          obtain ⟨hpl, hur⟩ := hmsh.out.at_ hml hu
          obtain ⟨hpv, hvr⟩ := hmsh.out.at_ hml hv
          have i1 : (0 : Int) ≤ (i : Int) := by omega
          have i2 : (i : Int) < (n : Int) := by omega
          have i4 : (k : Int) < (n1 : Int) := by have := hkm.out; omega
          have i6 : (r : Int) < (n1 : Int) := by have := hrm.out; omega
          have hw3 : IntKind.i64.wrap (v + 1) = v + 1 := IntWalk.i64_in _ (by omega)
          by_cases huv : u = v + 1
          · have hyes := Lib.hid (tog_step hq.out hml (k := k) (r := r) (by rw [hpl, hpv]; exact huv))
            have hd : (u != v + 1) = false := by simpa using huv
            clear hml hu hpl hur hv hpv hvr hN huv
            go_wp2
            go_quiet (fail)
            obtain ⟨z1, rfl⟩ : ∃ z1, z1 = nq := ⟨_, rfl⟩
            go_wp2
            go_roundw
            case rel => exact ⟨i + 1, by omega, by go_num, hyes, Lib.hid (hdr.out z1)⟩
            case measure => simp [intOf]; omega
          · have hno := Lib.hid (tog_no hml (k := k) (r := r) (by rw [hpl, hpv]; exact huv))
            have hd : (u != v + 1) = true := by simpa using huv
            clear hml hu hpl hur hv hpv hvr hN huv
            go_wp2
            go_quiet (fail)
            obtain ⟨z1, rfl⟩ : ∃ z1, z1 = nq := ⟨_, rfl⟩
            go_wp2
            go_ret
            exact ⟨ret_bool (by rw [Bool.true_and]; exact hno.out), hdr.out z1⟩
        · obtain rfl : i = n := by omega
          have hall := Lib.hid (show (ms.all fun l => pl l k == pl l r + 1) = true by have := hq.out; rwa [List.take_of_length_le (by rw [hlh.out]; exact Nat.le_refl _)] at this)
          go_wp2
          go_ret
          exact ⟨ret_bool (by rw [hall.out]; rfl), hw.out⟩
end Go.Proofs.YtoephlkfejcadaaGreat
/- Proved here, without conditions on the program: slices of spans, of chunks, of slices of bytes, that read as lists. -/
namespace Go.Proofs.YtoephlkfejcadaaGreat
open Go.RowKit
set_option linter.unusedVariables false

/-- A slice of spans. -/
def Spans (w : World) (B : Nat) (A : Option Addr) (n : Nat) (ss : List Sp) : Prop :=
  ss.length = n ∧ (0 < n → ∃ b o : Nat, A = some ⟨b, o, none⟩ ∧ b < B ∧ ∀ j s, ss[j]? = some s → w.cell? ⟨b, o + j * 2, none⟩ = some (.int .i64 s.1) ∧ w.cell? ⟨b, o + j * 2 + 1, none⟩ = some (.int .i64 s.2))
/-- A slice of chunks. -/
def Cks (w : World) (B : Nat) (A : Option Addr) (n : Nat) (cs : List Ck) : Prop :=
  cs.length = n ∧ (0 < n → ∃ b o : Nat, A = some ⟨b, o, none⟩ ∧ b < B ∧ ∀ j c, cs[j]? = some c →
    w.cell? ⟨b, o + j * 4, none⟩ = some (.bool c.1) ∧ w.cell? ⟨b, o + j * 4 + 1, none⟩ = some (.int .i64 c.2.1.1) ∧ w.cell? ⟨b, o + j * 4 + 2, none⟩ = some (.int .i64 c.2.1.2) ∧
      ∃ A' n' c', w.cell? ⟨b, o + j * 4 + 3, none⟩ = some (.slice A' n' c') ∧ n' ≤ c' ∧ c' ≤ maxLen ∧ Spans w B A' n' c.2.2)
/-- A slice of slices of bytes. -/
def RowsB (w : World) (B : Nat) (A : Option Addr) (n : Nat) (rows : List (Option Addr × Nat × Nat)) (bss : List (List UInt8)) : Prop :=
  Reads w B A n (rows.map fun r => .slice r.1 r.2.1 r.2.2) ∧ rows.length = bss.length ∧ ∀ (k : Nat) (r : Option Addr × Nat × Nat) (bs : List UInt8), rows[k]? = some r → bss[k]? = some bs → r.2.1 ≤ r.2.2 ∧ r.2.2 ≤ maxLen ∧ Byts w B r.1 r.2.1 bs

section
variable {w w' : World} {B B' n : Nat} {A : Option Addr}
theorem Spans.keep {ss : List Sp} (h : Spans w B A n ss) (hk : ∀ p : Addr, p.block < B → w'.cell? p = w.cell? p) : Spans w' B A n ss :=
  ⟨h.1, fun hn => by
    obtain ⟨b, o, e, hb, hc⟩ := h.2 hn
    exact ⟨b, o, e, hb, fun j s hj => ⟨(hk _ hb).trans (hc j s hj).1, (hk _ hb).trans (hc j s hj).2⟩⟩⟩
theorem Spans.more {ss : List Sp} (h : Spans w B A n ss) (hB : B ≤ B') : Spans w B' A n ss :=
  ⟨h.1, fun hn => by
    obtain ⟨b, o, e, hb, hc⟩ := h.2 hn
    exact ⟨b, o, e, by omega, hc⟩⟩
theorem Spans.len {ss : List Sp} (h : Spans w B A n ss) : ss.length = n := h.1
theorem Spans.at_ {ss : List Sp} {k : Nat} (h : Spans w B A n ss) (hk : k < n) : ∃ b o s, A = some ⟨b, o, none⟩ ∧ b < B ∧ ss[k]? = some s ∧ w.cell? ⟨b, o + k * 2, none⟩ = some (.int .i64 s.1) ∧ w.cell? ⟨b, o + k * 2 + 1, none⟩ = some (.int .i64 s.2) := by
  obtain ⟨b, o, e, hb, hc⟩ := h.2 (by omega)
  have hl : k < ss.length := by have := h.1; omega
  exact ⟨b, o, ss[k], e, hb, List.getElem?_eq_getElem hl, hc k _ (List.getElem?_eq_getElem hl)⟩
theorem Cks.keep {cs : List Ck} (h : Cks w B A n cs) (hk : ∀ p : Addr, p.block < B → w'.cell? p = w.cell? p) : Cks w' B A n cs :=
  ⟨h.1, fun hn => by
    obtain ⟨b, o, e, hb, hc⟩ := h.2 hn
    refine ⟨b, o, e, hb, fun j c hj => ?_⟩
    obtain ⟨h1, h2, h3, A', n', c', h4, h5, h6, h7⟩ := hc j c hj
    exact ⟨(hk _ hb).trans h1, (hk _ hb).trans h2, (hk _ hb).trans h3, A', n', c', (hk _ hb).trans h4, h5, h6, h7.keep hk⟩⟩
theorem Cks.more {cs : List Ck} (h : Cks w B A n cs) (hB : B ≤ B') : Cks w B' A n cs :=
  ⟨h.1, fun hn => by
    obtain ⟨b, o, e, hb, hc⟩ := h.2 hn
    refine ⟨b, o, e, by omega, fun j c hj => ?_⟩
    obtain ⟨h1, h2, h3, A', n', c', h4, h5, h6, h7⟩ := hc j c hj
    exact ⟨h1, h2, h3, A', n', c', h4, h5, h6, h7.more hB⟩⟩
theorem Cks.len {cs : List Ck} (h : Cks w B A n cs) : cs.length = n := h.1
theorem Cks.at_ {cs : List Ck} {k : Nat} (h : Cks w B A n cs) (hk : k < n) : ∃ b o c A' n' c', A = some ⟨b, o, none⟩ ∧ b < B ∧ cs[k]? = some c ∧ w.cell? ⟨b, o + k * 4, none⟩ = some (.bool c.1) ∧ w.cell? ⟨b, o + k * 4 + 1, none⟩ = some (.int .i64 c.2.1.1) ∧
    w.cell? ⟨b, o + k * 4 + 2, none⟩ = some (.int .i64 c.2.1.2) ∧ w.cell? ⟨b, o + k * 4 + 3, none⟩ = some (.slice A' n' c') ∧ n' ≤ c' ∧ c' ≤ maxLen ∧ Spans w B A' n' c.2.2 := by
  obtain ⟨b, o, e, hb, hc⟩ := h.2 (by omega)
  have hl : k < cs.length := by have := h.1; omega
  obtain ⟨h1, h2, h3, A', n', c', h4, h5, h6, h7⟩ := hc k _ (List.getElem?_eq_getElem hl)
  exact ⟨b, o, cs[k], A', n', c', e, hb, List.getElem?_eq_getElem hl, h1, h2, h3, h4, h5, h6, h7⟩
theorem Cks.up {cs : List Ck} (h : Cks w w.heap.size A n cs) (hb : Below w.heap.size w w') : Cks w' w'.heap.size A n cs := (h.keep fun _ hp => hb.cell hp).more hb.size
theorem Cks.nil (w : World) (B : Nat) (A : Option Addr) : Cks w B A 0 [] := ⟨rfl, fun h => absurd h (by omega)⟩
theorem Cks.drewN {cs : List Ck} (h : Cks w B A n cs) (q : Nat) : Cks (w.drewN q) B A n cs := h.keep fun _ _ => rfl
theorem Cks.drew {cs : List Ck} (h : Cks w B A n cs) : Cks w.drew B A n cs := h.keep fun _ _ => rfl
theorem Byts.up {l : List UInt8} (h : Byts w w.heap.size A n l) (hb : Below w.heap.size w w') : Byts w' w'.heap.size A n l := (Byts.below h hb).more hb.size
theorem RowsB.up {rows : List (Option Addr × Nat × Nat)} {bss : List (List UInt8)} (h : RowsB w w.heap.size A n rows bss) (hb : Below w.heap.size w w') : RowsB w' w'.heap.size A n rows bss :=
  ⟨(h.1.below hb).more hb.size, h.2.1, fun k r bs h1 h2 => ⟨(h.2.2 k r bs h1 h2).1, (h.2.2 k r bs h1 h2).2.1, (h.2.2 k r bs h1 h2).2.2.up hb⟩⟩
theorem RowsB.len {rows : List (Option Addr × Nat × Nat)} {bss : List (List UInt8)} (h : RowsB w B A n rows bss) : bss.length = n := by
  have := h.1.1; have := h.2.1; simp at *; omega
theorem RowsB.at_ {k : Nat} {rows : List (Option Addr × Nat × Nat)} {bss : List (List UInt8)} (h : RowsB w B A n rows bss) (hk : k < n) :
    ∃ b o A' n' c' bs, A = some ⟨b, o, none⟩ ∧ b < B ∧ bss[k]? = some bs ∧ w.cell? ⟨b, o + k, none⟩ = some (.slice A' n' c') ∧ n' ≤ c' ∧ c' ≤ maxLen ∧ Byts w B A' n' bs := by
  obtain ⟨b, o, u, e, hb, hu, hc⟩ := Reads.at_ h.1 hk
  rw [List.getElem?_map] at hu
  cases hr : rows[k]? with
  | none => rw [hr] at hu; cases hu
  | some r =>
    rw [hr] at hu
    have hlt : k < bss.length := by have := h.len; omega
    obtain ⟨h1, h2, h3⟩ := h.2.2 k r _ hr (List.getElem?_eq_getElem hlt)
    exact ⟨b, o, r.1, r.2.1, r.2.2, bss[k], e, hb, List.getElem?_eq_getElem hlt, by rw [hc]; simpa using hu.symm, h1, h2, h3⟩
theorem Byts.at_ {l : List UInt8} {k : Nat} (h : Byts w B A n l) (hk : k < n) : ∃ b o x, A = some ⟨b, o, none⟩ ∧ b < B ∧ l[k]? = some x ∧ w.cell? ⟨b, o + k, none⟩ = some (.int .u8 x.toNat) := by
  obtain ⟨b, o, u, e, hb, hu, hc⟩ := Reads.at_ h hk
  rw [List.getElem?_map] at hu
  cases hr : l[k]? with
  | none => rw [hr] at hu; cases hu
  | some x => rw [hr] at hu; exact ⟨b, o, x, e, hb, rfl, by rw [hc]; simpa using hu.symm⟩
end

/-- Bytes as numbers. -/
def ints (l : List UInt8) : List Int := l.map fun b => (b.toNat : Int)
theorem ints_len (l : List UInt8) : (ints l).length = l.length := by simp [ints]
theorem ints_at {l : List UInt8} {k : Nat} {b : UInt8} (h : l[k]? = some b) : (ints l)[k]? = some (b.toNat : Int) := by simp [ints, h]
end Go.Proofs.YtoephlkfejcadaaGreat
/- Proved here, without conditions on the program: slices of pieces that read as lists. -/
namespace Go.Proofs.YtoephlkfejcadaaGreat
open Go.RowKit
set_option linter.unusedVariables false

/-- A piece's text, base and sides, as slices. -/
abbrev PcV := Slc × Slc × Slc
/-- A slice of slices of texts, by its parts. -/
def SlcR (w : World) (B : Nat) (r : Slc) (sss : List Txs) : Prop := r.2.1 ≤ r.2.2 ∧ r.2.2 ≤ maxLen ∧ ∃ rows, RowsT w B r.1 r.2.1 rows sss
def PcR (w : World) (B : Nat) (v : PcV) (p : Pc) : Prop := TxR w B v.1 p.2.1 ∧ TxR w B v.2.1 p.2.2.1 ∧ SlcR w B v.2.2 p.2.2.2
/-- The cells of a piece. -/
def pcC (c : Bool) (v : PcV) : List Value := [.bool c, slcV v.1, slcV v.2.1, slcV v.2.2]
/-- A slice of pieces. -/
def Pcs (w : World) (B : Nat) (A : Option Addr) (n : Nat) (vs : List PcV) (ps : List Pc) : Prop :=
  ps.length = n ∧ vs.length = n ∧ (0 < n → ∃ b o : Nat, A = some ⟨b, o, none⟩ ∧ b < B ∧ ∀ (j : Nat) (v : PcV) (p : Pc), vs[j]? = some v → ps[j]? = some p →
    w.cell? ⟨b, o + j * 4, none⟩ = some (.bool p.1) ∧ w.cell? ⟨b, o + j * 4 + 1, none⟩ = some (slcV v.1) ∧ w.cell? ⟨b, o + j * 4 + 2, none⟩ = some (slcV v.2.1) ∧ w.cell? ⟨b, o + j * 4 + 3, none⟩ = some (slcV v.2.2)) ∧
  ∀ (j : Nat) (v : PcV) (p : Pc), vs[j]? = some v → ps[j]? = some p → PcR w B v p

section
variable {w w' : World} {B B' n : Nat} {A : Option Addr} {r : Slc} {v : PcV} {p : Pc} {vs : List PcV} {ps : List Pc} {sss : List Txs}
theorem SlcR.keep (h : SlcR w B r sss) (hk : ∀ p : Addr, p.block < B → w'.cell? p = w.cell? p) : SlcR w' B r sss := by
  obtain ⟨h1, h2, rows, h3⟩ := h
  exact ⟨h1, h2, rows, h3.keep hk⟩
theorem SlcR.more (h : SlcR w B r sss) (hB : B ≤ B') : SlcR w B' r sss := by
  obtain ⟨h1, h2, rows, h3⟩ := h
  exact ⟨h1, h2, rows, h3.more hB⟩
theorem SlcR.nil (w : World) (B : Nat) : SlcR w B (none, 0, 0) [] := ⟨Nat.le_refl _, Nat.zero_le _, [], RowsT.nil _ _ _⟩
theorem PcR.keep (h : PcR w B v p) (hk : ∀ p : Addr, p.block < B → w'.cell? p = w.cell? p) : PcR w' B v p := ⟨h.1.keep hk, h.2.1.keep hk, h.2.2.keep hk⟩
theorem PcR.more (h : PcR w B v p) (hB : B ≤ B') : PcR w B' v p := ⟨h.1.more hB, h.2.1.more hB, h.2.2.more hB⟩
theorem PcR.up (h : PcR w w.heap.size v p) (hb : Below w.heap.size w w') : PcR w' w'.heap.size v p := (h.keep fun _ hp => hb.cell hp).more hb.size
theorem Pcs.len (h : Pcs w B A n vs ps) : ps.length = n := h.1
theorem Pcs.keep (h : Pcs w B A n vs ps) (hk : ∀ p : Addr, p.block < B → w'.cell? p = w.cell? p) : Pcs w' B A n vs ps := by
  obtain ⟨h1, h2, h3, h4⟩ := h
  refine ⟨h1, h2, fun hn => ?_, fun j v p a b => (h4 j v p a b).keep hk⟩
  obtain ⟨b, o, e, hb, hc⟩ := h3 hn
  refine ⟨b, o, e, hb, fun j v p a b' => ?_⟩
  obtain ⟨k1, k2, k3, k4⟩ := hc j v p a b'
  exact ⟨(hk _ hb).trans k1, (hk _ hb).trans k2, (hk _ hb).trans k3, (hk _ hb).trans k4⟩
theorem Pcs.more (h : Pcs w B A n vs ps) (hB : B ≤ B') : Pcs w B' A n vs ps := by
  obtain ⟨h1, h2, h3, h4⟩ := h
  refine ⟨h1, h2, fun hn => ?_, fun j v p a b => (h4 j v p a b).more hB⟩
  obtain ⟨b, o, e, hb, hc⟩ := h3 hn
  exact ⟨b, o, e, by omega, hc⟩
theorem Pcs.below (h : Pcs w B A n vs ps) (hb : Below B w w') : Pcs w' B A n vs ps := h.keep fun _ hp => hb.cell hp
theorem Pcs.up (h : Pcs w w.heap.size A n vs ps) (hb : Below w.heap.size w w') : Pcs w' w'.heap.size A n vs ps := (h.below hb).more hb.size
theorem Pcs.drewN (h : Pcs w B A n vs ps) (q : Nat) : Pcs (w.drewN q) B A n vs ps := h.keep fun _ _ => rfl
theorem Pcs.drew (h : Pcs w B A n vs ps) : Pcs w.drew B A n vs ps := h.keep fun _ _ => rfl
theorem Pcs.nil (w : World) (B : Nat) (A : Option Addr) : Pcs w B A 0 [] [] := ⟨rfl, rfl, fun h => absurd h (by omega), fun j v p h => by simp at h⟩
theorem Pcs.at_ {k : Nat} (h : Pcs w B A n vs ps) (hk : k < n) : ∃ b o cf At nt ct Ab nb cb As ns cs t bs ss, A = some ⟨b, o, none⟩ ∧ b < B ∧ vs[k]? = some ((At, nt, ct), (Ab, nb, cb), (As, ns, cs)) ∧ ps[k]? = some (cf, t, bs, ss) ∧
    w.cell? ⟨b, o + k * 4, none⟩ = some (.bool cf) ∧ w.cell? ⟨b, o + k * 4 + 1, none⟩ = some (.slice At nt ct) ∧ w.cell? ⟨b, o + k * 4 + 2, none⟩ = some (.slice Ab nb cb) ∧ w.cell? ⟨b, o + k * 4 + 3, none⟩ = some (.slice As ns cs) ∧
    TxR w B (At, nt, ct) t ∧ TxR w B (Ab, nb, cb) bs ∧ SlcR w B (As, ns, cs) ss := by
  obtain ⟨h1, h2, h3, h4⟩ := h
  obtain ⟨b, o, e, hb, hc⟩ := h3 (by omega)
  have hv : vs[k]? = some (vs[k]'(by omega)) := List.getElem?_eq_getElem _
  have hp : ps[k]? = some (ps[k]'(by omega)) := List.getElem?_eq_getElem _
  obtain ⟨k1, k2, k3, k4⟩ := hc k _ _ hv hp
  obtain ⟨j1, j2, j3⟩ := h4 k _ _ hv hp
  exact ⟨b, o, _, _, _, _, _, _, _, _, _, _, _, _, _, e, hb, hv, hp, k1, k2, k3, k4, j1, j2, j3⟩
end
theorem pcC_one (c : Bool) (v : PcV) : ∀ u ∈ pcC c v, u.oneCell' = true := by
  intro u hu
  simp [pcC] at hu
  rcases hu with rfl | rfl | rfl | rfl <;> rfl
end Go.Proofs.YtoephlkfejcadaaGreat
/- Proved here, without conditions on the program: what lies in a world behind allocs; new blocks that read as texts, as lists of texts. -/
namespace Go.Proofs.YtoephlkfejcadaaGreat
open Go.RowKit
set_option linter.unusedVariables false

theorem push_at (w : World) (o : Obj) (k : Nat) : (w.alloc o).heap[k]? = if k = w.heap.size then some o else w.heap[k]? := by
  show (w.heap.push o)[k]? = _
  rw [Array.getElem?_push]
theorem push_size (w : World) (o : Obj) : (w.alloc o).heap.size = w.heap.size + 1 := by simp
theorem txr_of {W : World} {g n : Nat} {ss : Txs} {C : Array Value} {t : TypeId} (h : W.heap[g]? = some (.cells C t (0, 0))) (hC : C = (ss.map fun s => Value.string (str s)).toArray) (hn : ss.length = n) (hm : n ≤ maxLen) : TxR W W.heap.size (some ⟨g, 0, none⟩, n, n) ss := by
  refine ⟨Nat.le_refl _, hm, by simpa using hn, fun _ => ⟨g, 0, rfl, (Array.getElem?_eq_some_iff.1 h).1, fun j u hu => ?_⟩⟩
  rw [Nat.zero_add, cells_of h, hC]
  simpa using hu
theorem rowsT_of {W : World} {g n : Nat} {rows : List Slc} {sss : List Txs} {C : Array Value} {t : TypeId} (h : W.heap[g]? = some (.cells C t (0, 0))) (hC : C = (rows.map slcV).toArray) (hn : rows.length = n) (hl : rows.length = sss.length)
    (each : ∀ (k : Nat) (r : Slc) (ss : Txs), rows[k]? = some r → sss[k]? = some ss → TxR W W.heap.size r ss) : RowsT W W.heap.size (some ⟨g, 0, none⟩) n rows sss := by
  refine ⟨⟨by simpa using hn, fun _ => ⟨g, 0, rfl, (Array.getElem?_eq_some_iff.1 h).1, fun j u hu => ?_⟩⟩, hl, each⟩
  rw [Nat.zero_add, cells_of h, hC]
  simpa using hu
end Go.Proofs.YtoephlkfejcadaaGreat
